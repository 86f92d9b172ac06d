/- The document's answer: Read. The document's answer: what a write or a removal makes of a net without memory. The document's answer: Write. The document's answer: gone, Remove. The document's answer: Remove. The document's answer: List. -/
import Derived.Test.YtaelaldmibgibaaGreatDoorW11

set_option linter.unusedVariables false
set_option linter.unusedSimpArgs false

namespace Go.Proofs.YtaelaldmibgibaaGreatDoor
open Go.RowKit

/-- the spot of a path, in a replica -/
theorem spot_at {w : World} {b : Nat} {ρ : Nat → Nat × Nat} {S : RS} {A : Abs} (h : RefRep w b ρ S) (hI : RInv S A) (r : Nat) (hr : r < S.n) (i : Nat) (p : ByteArray) (hp : S.paths[i]? = some p) :
    ∃ sg sc g cap l s, S.sv = .slice (some ⟨sg, 0, none⟩) S.n sc ∧ w.cell? ⟨b, 3, none⟩ = some (.slice (some ⟨sg, 0, none⟩) S.n sc) ∧ w.cell? ⟨sg, r, none⟩ = some (.slice (some ⟨g, 0, none⟩) l.length cap) ∧ S.rows[r]? = some (.slice (some ⟨g, 0, none⟩) l.length cap, l) ∧ l[i]? = some s ∧ l.length = S.paths.length ∧
      A.F r = rowF (S.paths.take i) (l.take i) ++ rowM p s ++ rowF (S.paths.drop (i + 1)) (l.drop (i + 1)) ∧ Parts p (rowF (S.paths.take i) (l.take i)) (rowM p s) (rowF (S.paths.drop (i + 1)) (l.drop (i + 1))) ∧
      g < w.heap.size ∧ (∀ j, j < 6 → w.cell? ⟨g, i * 6 + j, none⟩ = s.cells[j]?) ∧ (∀ k, w.frozen? ⟨g, k, none⟩ = false) := by
  obtain ⟨sg, sc, v, l, es, hs, hx, hrow, _, _, _, _⟩ := h.theRow r hr
  have hl := hI.len r _ hx
  simp only at hl
  obtain ⟨hi, rfl⟩ := List.getElem?_eq_some_iff.1 hp
  have hks : l[i]? = some (l[i]'(by omega)) := List.getElem?_eq_getElem (by omega)
  generalize l[i]'(by omega) = s at hks
  obtain ⟨g, cap, rfl, hg, _, hc, hf⟩ := spot_cells hrow i s hks
  have e1 : S.paths = S.paths.take i ++ S.paths[i] :: S.paths.drop (i + 1) := by rw [← List.drop_eq_getElem_cons hi, List.take_append_drop]
  have e2 : l = l.take i ++ s :: l.drop (i + 1) := by
    obtain ⟨hil, rfl⟩ := List.getElem?_eq_some_iff.1 hks
    rw [← List.drop_eq_getElem_cons hil, List.take_append_drop]
  refine ⟨sg, sc, g, cap, l, s, es, by rw [h.c3, es], hs, hx, hks, hl, ?_, ?_, hg, hc, hf⟩
  · rw [hI.files r _ l hx]
    have := rowF_split (S.paths.take i) (S.paths.drop (i + 1)) S.paths[i] (l.take i) (l.drop (i + 1)) s (by rw [List.length_take, List.length_take]; omega)
    rw [← e1, ← e2] at this
    exact this
  · refine parts_of (a := S.paths.take i) (b := S.paths.drop (i + 1)) ?_
    rw [← e1]; exact hI.sorted

theorem rowM_head (p : ByteArray) (s : SP) : (rowM p s).head?.map (·.2) = if s.there = true then some s.text else none := by
  unfold rowM; split <;> rfl

theorem asked_bad (b : Nat) (r : Int) (s : ByteArray) (ρ : Nat → Nat × Nat) (S : RS) (A : Abs) (w : World) (h : RefRep w b ρ S) (hI : RInv S A) (hs : s.size ≤ maxLen) (ho : A.out r = true) :
    Calls Tryz.prog 150 #[.pointer (some ⟨b, 0, none⟩), .int .i64 r, .string s] w fun e w' => e = .returned (.int .i64 1) ∧ w' = w := by
  have := asked_any b r s ρ S w h hs
  unfold Abs.out at ho
  rw [hI.n] at ho
  rw [if_pos (by simpa using ho)] at this
  exact this
theorem asked_path (b : Nat) (r : Int) (s : ByteArray) (ρ : Nat → Nat × Nat) (S : RS) (A : Abs) (w : World) (h : RefRep w b ρ S) (hI : RInv S A) (hs : s.size ≤ maxLen) (ho : A.out r = false) (hp : pathOk s = false) :
    Calls Tryz.prog 150 #[.pointer (some ⟨b, 0, none⟩), .int .i64 r, .string s] w fun e w' => e = .returned (.int .i64 2) ∧ w' = w := by
  have := asked_any b r s ρ S w h hs
  unfold Abs.out at ho
  rw [hI.n] at ho
  rw [if_neg (by simpa using ho), if_neg (by rw [hp]; simp)] at this
  exact this
theorem asked_ok (b : Nat) (r : Int) (s : ByteArray) (ρ : Nat → Nat × Nat) (S : RS) (A : Abs) (w : World) (h : RefRep w b ρ S) (hI : RInv S A) (hs : s.size ≤ maxLen) (ho : A.out r = false) (hp : pathOk s = true) :
    Calls Tryz.prog 150 #[.pointer (some ⟨b, 0, none⟩), .int .i64 r, .string s] w fun e w' => e = .returned (.int .i64 0) ∧ w' = w := by
  have := asked_any b r s ρ S w h hs
  unfold Abs.out at ho
  rw [hI.n] at ho
  rw [if_neg (by simpa using ho), if_pos hp] at this
  exact this
theorem out_nat {A : Abs} {r : Int} (h : A.out r = false) : ∃ q : Nat, r = (q : Int) ∧ q < A.n := by
  unfold Abs.out at h
  simp at h
  exact ⟨r.toNat, by omega, by omega⟩

theorem ret_si {a b : ByteArray} {x y : Int} (h : a = b) (h' : x = y) : Ending.returned (.tuple #[.string a, .int .i64 x]) = .returned (.tuple #[.string b, .int .i64 y]) := by rw [h, h']

/-- what a call of the document's answer leaves, besides its answer -/
structure After (w : World) (b : Nat) (ρ : Nat → Nat × Nat) (S : RS) (A : Abs) (w' : World) (ρ' : Nat → Nat × Nat) (S' : RS) : Prop where
  rep : RefRep w' b ρ' S'
  inv : RInv S' A
  grow : Grow w ρ ρ'
  fr : Fr (fun k => (ρ k).1 ≠ 0) w w'
  n : S'.n = S.n
  len : S'.paths.length ≤ S.paths.length + 1
  sub : ∀ q ∈ S'.paths, q ∈ S.paths ∨ pathOk q = true
theorem After.refl {w : World} {b : Nat} {ρ : Nat → Nat × Nat} {S : RS} {A : Abs} (h : RefRep w b ρ S) (hI : RInv S A) : After w b ρ S A w ρ S :=
  ⟨h, hI, Grow.refl _ _, Fr.refl _ _, rfl, by omega, fun q hq => .inl hq⟩

set_option maxHeartbeats 600000 in
theorem refRead_any (b : Nat) (r : Int) (p : ByteArray) (ρ : Nat → Nat × Nat) (S : RS) (A : Abs) (w : World) (h : RefRep w b ρ S) (hI : RInv S A) (hm : S.paths.length ≤ 100000000) (hs : p.size ≤ maxLen) :
    Calls Tryz.prog 85 #[.pointer (some ⟨b, 0, none⟩), .int .i64 r, .string p] w fun e w' => ∃ ρ' S', e = .returned (.tuple #[.string (A.readT r p), .int .i64 (A.readE r p)]) ∧ After w b ρ S A w' ρ' S' := by
  cases ho : A.out r with
  | true =>
    have e1 : A.readE r p = 1 := by unfold Abs.readE; rw [if_pos ho]
    have e2 : A.readT r p = ⟨#[]⟩ := by unfold Abs.readT; rw [e1]; rfl
    rw [e1, e2]
    have H := hide (After.refl h hI)
    have C := hide (asked_bad b r p ρ S A w h hI hs ho)
    clear h hI
    go_enter Tryz.func85, Tryz.ntmps85
    go_wp2_with (go_at_call 150; refine C.out.mono ?_; rintro e w' ⟨rfl, rfl⟩)
    go_ret2
    exact ⟨ρ, S, rfl, H.out⟩
  | false =>
    cases hp : pathOk p with
    | false =>
      have e1 : A.readE r p = 2 := by unfold Abs.readE; rw [if_neg (by rw [ho]; simp), if_pos hp]
      have e2 : A.readT r p = ⟨#[]⟩ := by unfold Abs.readT; rw [e1]; rfl
      rw [e1, e2]
      have H := hide (After.refl h hI)
      have C := hide (asked_path b r p ρ S A w h hI hs ho hp)
      clear h hI
      go_enter Tryz.func85, Tryz.ntmps85
      go_wp2_with (go_at_call 150; refine C.out.mono ?_; rintro e w' ⟨rfl, rfl⟩)
      go_ret2
      exact ⟨ρ, S, rfl, H.out⟩
    | true =>
      have C := hide (asked_ok b r p ρ S A w h hI hs ho hp)
      have D := hide (place_any b p ρ S A w h hI hm)
      have HPO := hide hp
      have e1 : Hid (A.readE r p = if get p (A.F r.toNat) = none then 4 else 0) := by unfold Hid Abs.readE; rw [if_neg (by rw [ho]; simp), if_neg (by rw [hp]; simp)]
      have e2 : Hid (A.readT r p = if A.readE r p = 0 then (get p (A.F r.toNat)).getD ⟨#[]⟩ else ⟨#[]⟩) := by unfold Hid Abs.readT; rfl
      obtain ⟨q, rfl, hq⟩ := out_nat ho
      have hqn : q < S.n := by rw [← hI.n]; exact hq
      clear h hI ho hp hq
      rw [Int.toNat_natCast] at e1 e2
      go_enter Tryz.func85, Tryz.ntmps85
      go_wp2_with fail
      refine C.out.mono ?_
      rintro e w ⟨rfl, rfl⟩
      go_wp2_with fail
      refine D.out.mono ?_
      rintro e w' ⟨ρ', S', i, rfl, hR, hI', hG, hF, hpi, hn', hl', hsub⟩
      obtain ⟨sg, sc, g, cap, l, s, es, h3, hsr, hx, hks, hll, hA, hP, hg, hc, _⟩ := spot_at hR hI' q (by omega) i p hpi
      have hget := hP.get
      rw [← hA, rowM_head] at hget
      have c0 : w'.cell? ⟨g, i * 6, none⟩ = some (.bool s.there) := by simpa [SP.cells] using hc 0 (by omega)
      have c1 : w'.cell? ⟨g, i * 6 + 1, none⟩ = some (.string s.text) := by simpa [SP.cells] using hc 1 (by omega)
      have hil : i < l.length := (List.getElem?_eq_some_iff.1 hks).1
      have hn6 := hR.n6
      have T := hide (⟨hR, hI', hG, hF, hn', hl', fun q hq => (hsub q hq).imp id (fun e => by rw [e]; exact HPO.out)⟩ : After w b ρ S A w' ρ' S')
      clear hks hx es hA hP hc hpi hG hF hl' hll hI' hR
      cases ht : s.there with
      | true =>
        rw [ht] at hget c0
        rw [if_pos rfl] at hget
        have E1 : Hid (A.readE (q : Int) p = 0) := by unfold Hid; rw [e1.out, hget]; rfl
        have E2 : Hid (A.readT (q : Int) p = s.text) := by unfold Hid; rw [e2.out, E1.out, hget]; rfl
        clear hget e1 e2 ht
        generalize S'.n = n at *
        go_wp2
        go_ret2
        exact ⟨ρ', S', ret_si E2.out.symm E1.out.symm, T.out⟩
      | false =>
        rw [ht] at hget c0
        rw [if_neg (by simp)] at hget
        have E1 : Hid (A.readE (q : Int) p = 4) := by unfold Hid; rw [e1.out, hget]; rfl
        have E2 : Hid (A.readT (q : Int) p = ⟨#[]⟩) := by unfold Hid; rw [e2.out, E1.out]; rfl
        clear hget e1 e2 ht
        generalize S'.n = n at *
        go_wp2
        go_ret2
        exact ⟨ρ', S', ret_si E2.out.symm E1.out.symm, T.out⟩

end Go.Proofs.YtaelaldmibgibaaGreatDoor

namespace Go.Proofs.YtaelaldmibgibaaGreatDoor
open Go.RowKit

def tmSet (q : Nat) (x : Int) (s : SP) : SP := { s with tm := s.tm.set q x }

theorem rowF_map (ps : List ByteArray) (l : List SP) (f : SP → SP) (h1 : ∀ s, (f s).there = s.there) (h2 : ∀ s, (f s).text = s.text) : rowF ps (l.map f) = rowF ps l := by
  unfold rowF
  induction l generalizing ps with
  | nil => simp
  | cons s l ih =>
    cases ps with
    | nil => simp
    | cons p ps =>
      simp only [List.map_cons, List.zip_cons_cons, List.filter_cons, h1]
      by_cases ht : s.there = true <;> simp [ht, h2, ih]

/-- behind acts and what is written into one spot -/
theorem RInv.spotSet {w : World} {b : Nat} {ρ : Nat → Nat × Nat} {S : RS} {A : Abs} (h : RInv S A) (hR : RefRep w b ρ S) (q : Nat) (hq : q < S.n) (x : Int) (hx0 : 0 ≤ x) (v v' cw : Value) (l : List SP) (c : List Int) (hx : S.rows[q]? = some (v, l)) (hc : S.coms[q]? = some (cw, c))
    (i : Nat) (p : ByteArray) (hp : S.paths[i]? = some p) (sf : SP) (htm : sf.tm = c.set q x) :
    RInv { S with coms := S.coms.set q (cw, c.set q x), rows := S.rows.set q (v', (l.map (tmSet q x)).set i sf) } (A.set q (if sf.there = true then put p sf.text (A.F q) else del p (A.F q)) x) := by
  have hrl : q < S.rows.length := by rw [hR.rowl]; exact hq
  have hcl : q < S.coms.length := by rw [hR.coml]; exact hq
  have hll := h.len q _ hx
  simp only at hll
  obtain ⟨sg, sc, g, cap, l', s, _, _, _, hx', hks, _, hA, hP, _⟩ := spot_at hR h q hq i p hp
  rw [hx] at hx'
  simp at hx'
  obtain ⟨_, rfl⟩ := hx'
  obtain ⟨hi, hpe⟩ := List.getElem?_eq_some_iff.1 hp
  have key : ∀ r y, (S.rows.set q (v', (l.map (tmSet q x)).set i sf))[r]? = some y → (r = q ∧ y = (v', (l.map (tmSet q x)).set i sf)) ∨ (r ≠ q ∧ S.rows[r]? = some y) := by
    intro r y hy
    by_cases e : r = q
    · subst e
      simp [hrl] at hy
      exact .inl ⟨rfl, hy.symm⟩
    · rw [List.getElem?_set_ne (Ne.symm e)] at hy
      exact .inr ⟨e, hy⟩
  refine ⟨h.n, h.sorted, ?_, ?_, ?_, ?_⟩
  · intro r y hy
    rcases key r y hy with ⟨rfl, rfl⟩ | ⟨_, hy'⟩
    · simp [hll]
    · exact h.len r y hy'
  · intro r vv ll hy
    rcases key r _ hy with ⟨rfl, e⟩ | ⟨hne, hy'⟩
    · simp at e
      obtain ⟨rfl, rfl⟩ := e
      have e1 : S.paths = S.paths.take i ++ p :: S.paths.drop (i + 1) := by rw [← hpe, ← List.drop_eq_getElem_cons hi, List.take_append_drop]
      have e2 : (l.map (tmSet r x)).set i sf = (l.take i).map (tmSet r x) ++ sf :: (l.drop (i + 1)).map (tmSet r x) := by
        rw [List.set_eq_take_append_cons_drop, if_pos (by rw [List.length_map]; omega), List.map_take, List.map_drop]
      have e3 := rowF_split (S.paths.take i) (S.paths.drop (i + 1)) p ((l.take i).map (tmSet r x)) ((l.drop (i + 1)).map (tmSet r x)) sf (by rw [List.length_map, List.length_take, List.length_take]; omega)
      rw [← e1, ← e2, rowF_map _ _ (tmSet r x) (fun _ => rfl) (fun _ => rfl), rowF_map _ _ (tmSet r x) (fun _ => rfl) (fun _ => rfl)] at e3
      show (A.set r _ x).F r = rowF S.paths _
      rw [e3]
      simp only [Abs.set, if_true]
      rw [hA]
      by_cases ht : sf.there = true
      · rw [if_pos ht, hP.put]
        unfold rowM
        rw [if_pos ht]
        simp
      · rw [if_neg ht, hP.del]
        unfold rowM
        rw [if_neg ht]
        simp
    · show (A.set q _ x).F r = rowF S.paths ll
      simp only [Abs.set]
      rw [if_neg hne]
      exact h.files r vv ll hy'
  · intro r hr
    by_cases e : r = q
    · subst e
      have hcn : c.length = S.n := (hR.com r _ hc).2.1
      simp only [Abs.set, RS.count, List.getElem?_set, if_true, hcl]
      refine ⟨?_, hx0⟩
      simp [List.getD_eq_getElem?_getD, hcn, hq]
    · have := h.cnt r hr
      simp only [Abs.set]
      rw [if_neg e]
      unfold RS.count at *
      rw [List.getElem?_set_ne (Ne.symm e)]
      exact this
  · intro r vv ll cw' c' hy hc' t ht
    rcases key r _ hy with ⟨rfl, e⟩ | ⟨hne, hy'⟩
    · simp at e
      obtain ⟨rfl, rfl⟩ := e
      simp [hcl] at hc'
      obtain ⟨rfl, rfl⟩ := hc'
      rcases List.mem_or_eq_of_mem_set ht with ht | rfl
      · rw [List.mem_map] at ht
        obtain ⟨u, hu, rfl⟩ := ht
        simp only [tmSet]
        rw [h.tm r _ l _ _ hx hc u hu]
      · exact htm
    · simp only at hc'
      rw [List.getElem?_set_ne (Ne.symm hne)] at hc'
      exact h.tm r vv ll cw' c' hy' hc' t ht

theorem heap_set_congr {w w' : World} {k : Nat} (a : Addr) (v : Value) (h : w.heap[k]? = w'.heap[k]?) : (w.setCell a v).heap[k]? = (w'.setCell a v).heap[k]? := by
  simp only [World.setCell, Array.getElem?_modify, h]
/-- stores into two blocks: in whatever order -/
theorem heap_set_swap (w : World) (a b : Addr) (u v : Value) (h : a.block ≠ b.block) (k : Nat) : ((w.setCell a u).setCell b v).heap[k]? = ((w.setCell b v).setCell a u).heap[k]? := by
  by_cases e : k = a.block
  · subst e
    rw [heap_set_other h]
    exact heap_set_congr a u (heap_set_other h).symm
  · rw [heap_set_other (a := a) e]
    by_cases e' : k = b.block
    · subst e'
      exact heap_set_congr b v (heap_set_other e)
    · rw [heap_set_other e', heap_set_other e', heap_set_other e]

/-- the spot's list of changes is a new one, with one number in it written -/
theorem RefRep.newCh {w : World} {b : Nat} {ρ : Nat → Nat × Nat} {S : RS} (h : RefRep w b ρ S) (q : Nat) (_hq : q < S.n) (g cap : Nat) (l : List SP) (hx : S.rows[q]? = some (.slice (some ⟨g, 0, none⟩) l.length cap, l)) (i : Nat) (s : SP) (hs : l[i]? = some s)
    (gc cc : Nat) (ch : List Int) (hch : intRow w (.slice (some ⟨gc, 0, none⟩) S.n cc) ch) (hchl : ch.length = S.n) (hfree : (ρ gc).1 = 0) (hgl : gc < w.heap.size) (x : Int) :
    RefRep ((w.setCell ⟨g, i * 6 + 4, none⟩ (.slice (some ⟨gc, 0, none⟩) S.n cc)).setCell ⟨gc, q, none⟩ (.int .i64 x)) b (Go.Proofs.YtaelaldmibgibaaGreatDoor.upd ρ gc (6, 0))
      { S with rows := S.rows.set q (.slice (some ⟨g, 0, none⟩) l.length cap, l.set i { s with chv := .slice (some ⟨gc, 0, none⟩) S.n cc, ch := ch.set q x }) } := by
  have hρ : ρ g = (5, q) := (h.row q _ hx).2 g rfl
  have hgg : g ≠ gc := by rintro rfl; rw [hρ] at hfree; simp at hfree
  have h1 : RefRep (w.setCell ⟨gc, q, none⟩ (.int .i64 x)) b ρ S := h.keep (by rw [size_setCell]; omega) (fun k hk => heap_set_other (by simp only; rintro rfl; exact hk hfree))
  have h2 := h1.upd (6, 0) hfree (by rw [size_setCell]; exact hgl)
  have hsp := h2.sp q _ hx s (List.mem_of_getElem? hs)
  have h3 := h2.setSpot q g cap l hx i s { s with chv := .slice (some ⟨gc, 0, none⟩) S.n cc, ch := ch.set q x } hs 4 (.slice (some ⟨gc, 0, none⟩) S.n cc) (by omega) rfl
    ⟨intRow_set hch q x, by simpa using hchl, by intro k hk; simp [Value.ownBlock] at hk; subst hk; simp [Go.Proofs.YtaelaldmibgibaaGreatDoor.upd], hsp.tm, hsp.tml, hsp.tmr⟩
  exact h3.keep (by rw [size_setCell, size_setCell, size_setCell, size_setCell]; omega) (fun k _ => heap_set_swap w _ _ _ _ hgg k)

end Go.Proofs.YtaelaldmibgibaaGreatDoor

namespace Go.Proofs.YtaelaldmibgibaaGreatDoor
open Go.RowKit

theorem After.chain {w w1 w2 : World} {b : Nat} {ρ ρ1 ρ2 : Nat → Nat × Nat} {S S1 S2 : RS} {A A2 : Abs} (h : After w b ρ S A w1 ρ1 S1) (hR : RefRep w2 b ρ2 S2) (hI : RInv S2 A2) (hf : Fr (fun k => (ρ1 k).1 ≠ 0) w1 w2) (hg : Grow w1 ρ1 ρ2) (hn : S2.n = S1.n) (hl : S2.paths = S1.paths) :
    After w b ρ S A2 w2 ρ2 S2 :=
  ⟨hR, hI, h.grow.trans h.fr.size hg, h.fr.trans' hf (fun i hi hk => by rcases h.grow i hk with q | q; exact q; omega), hn.trans h.n, by rw [hl]; exact h.len, by rw [hl]; exact h.sub⟩

/-- the cells of a spot, and that they may be written -/
structure Six (w : World) (g i n : Nat) (s : SP) (gc cc gt ct : Nat) : Prop where
  c0 : w.cell? ⟨g, i * 6, none⟩ = some (.bool s.there)
  c1 : w.cell? ⟨g, i * 6 + 1, none⟩ = some (.string s.text)
  c2 : w.cell? ⟨g, i * 6 + 2, none⟩ = some (.int .i64 s.by_)
  c3 : w.cell? ⟨g, i * 6 + 3, none⟩ = some (.int .i64 s.num)
  c4 : w.cell? ⟨g, i * 6 + 4, none⟩ = some (.slice (some ⟨gc, 0, none⟩) n cc)
  c5 : w.cell? ⟨g, i * 6 + 5, none⟩ = some (.slice (some ⟨gt, 0, none⟩) n ct)
  fz : ∀ k, w.frozen? ⟨g, k, none⟩ = false
  ch : s.chv = .slice (some ⟨gc, 0, none⟩) n cc
  tm : s.tmv = .slice (some ⟨gt, 0, none⟩) n ct
theorem RefRep.sixth {w : World} {b : Nat} {ρ : Nat → Nat × Nat} {S : RS} (h : RefRep w b ρ S) (r g cap : Nat) (l : List SP) (hx : S.rows[r]? = some (.slice (some ⟨g, 0, none⟩) l.length cap, l)) (k : Nat) (s : SP) (hk : l[k]? = some s) :
    ∃ gc cc gt ct, Six w g k S.n s gc cc gt ct := by
  obtain ⟨g', cap', gc, cc, gt, ct, ev, _, ec, et, q0, q1, q2, q3, q4, q5⟩ := h.six r _ l hx k s hk
  simp at ev
  obtain ⟨rfl, rfl⟩ := ev
  obtain ⟨_, _, e, _, _, _, hf⟩ := spot_cells (h.row r _ hx).1 k s hk
  simp at e
  obtain ⟨rfl, rfl⟩ := e
  exact ⟨gc, cc, gt, ct, q0, q1, q2, q3, q4, q5, hf, ec, et⟩

theorem RefRep.access {w : World} {b : Nat} {ρ : Nat → Nat × Nat} {S : RS} (h : RefRep w b ρ S) (q : Nat) (hq : q < S.n) (g cap : Nat) (l : List SP) (hx : S.rows[q]? = some (.slice (some ⟨g, 0, none⟩) l.length cap, l)) (k : Nat) (s : SP) (hk : l[k]? = some s) :
    ∃ sg sc gc cc gt ct, w.cell? ⟨b, 3, none⟩ = some (.slice (some ⟨sg, 0, none⟩) S.n sc) ∧ w.cell? ⟨sg, q, none⟩ = some (.slice (some ⟨g, 0, none⟩) l.length cap) ∧ Six w g k S.n s gc cc gt ct := by
  obtain ⟨sg, sc, v, l', es, hs, hx', _⟩ := h.theRow q hq
  rw [hx] at hx'
  simp at hx'
  obtain ⟨rfl, rfl⟩ := hx'
  obtain ⟨gc, cc, gt, ct, six⟩ := h.sixth q g cap l hx k s hk
  exact ⟨sg, sc, gc, cc, gt, ct, by rw [h.c3, es], hs, six⟩

theorem row_set {S : RS} {q : Nat} (hq : q < S.rows.length) (y : Value × List SP) : ({ S with rows := S.rows.set q y } : RS).rows[q]? = some y := by simp [hq]

/-- behind acts: the row of the replica, and its spot -/
theorem acted_row {S : RS} {q i g cap : Nat} {l : List SP} {s : SP} {x : Int} {cw : Value} {cl : List Int} (hq : q < S.rows.length) (hk : l[i]? = some s) :
    ({ S with coms := S.coms.set q (cw, cl.set q x), rows := S.rows.set q (.slice (some ⟨g, 0, none⟩) l.length cap, l.map (fun s => { s with tm := s.tm.set q x })) } : RS).rows[q]? = some (.slice (some ⟨g, 0, none⟩) (l.map (tmSet q x)).length cap, l.map (tmSet q x)) ∧
      (l.map (tmSet q x))[i]? = some (tmSet q x s) := by
  refine ⟨?_, ?_⟩
  · simp only [List.getElem?_set, hq, if_true, List.length_map]; rfl
  · rw [List.getElem?_map, hk]; rfl

/-- the last steps of Write: the text, a new list of changes, the event in it -/
theorem write_tail {w2 w4 : World} {b : Nat} {ρ : Nat → Nat × Nat} {S2 : RS} (hR2 : RefRep w2 b ρ S2) (q : Nat) (hq : q < S2.n) (g cap : Nat) (l : List SP) (hx : S2.rows[q]? = some (.slice (some ⟨g, 0, none⟩) l.length cap, l)) (i : Nat) (s : SP) (hk : l[i]? = some s) (t : ByteArray)
    (hb : Below (w2.setCell ⟨g, i * 6 + 1, none⟩ (.string t)).heap.size (w2.setCell ⟨g, i * 6 + 1, none⟩ (.string t)) w4) (gc cc : Nat) (ch : List Int) (hch : w4.ownsRow (w2.setCell ⟨g, i * 6 + 1, none⟩ (.string t)).heap.size 3 1 (.slice (some ⟨gc, 0, none⟩) ch.length cc) ch.length (ivs ch)) (hchl : ch.length = S2.n) (x : Int) :
    RefRep ((w4.setCell ⟨g, i * 6 + 4, none⟩ (.slice (some ⟨gc, 0, none⟩) S2.n cc)).setCell ⟨gc, q, none⟩ (.int .i64 x)) b (upd ρ gc (6, 0))
      { S2 with rows := S2.rows.set q (.slice (some ⟨g, 0, none⟩) l.length cap, l.set i { s with text := t, chv := .slice (some ⟨gc, 0, none⟩) S2.n cc, ch := ch.set q x }) } ∧
    Fr (fun k => (ρ k).1 ≠ 0) w2 ((w4.setCell ⟨g, i * 6 + 4, none⟩ (.slice (some ⟨gc, 0, none⟩) S2.n cc)).setCell ⟨gc, q, none⟩ (.int .i64 x)) ∧ Grow w2 ρ (upd ρ gc (6, 0)) := by
  have hql : q < S2.rows.length := by rw [hR2.rowl]; exact hq
  have hρ : ρ g = (5, q) := (hR2.row q _ hx).2 g rfl
  have hi : i < l.length := (List.getElem?_eq_some_iff.1 hk).1
  obtain ⟨hg1, hg2⟩ := World.ownsRow.lt hch gc rfl
  have hz : (w2.setCell ⟨g, i * 6 + 1, none⟩ (.string t)).heap.size = w2.heap.size := size_setCell _ _ _
  have hsp := hR2.sp q _ hx s (List.mem_of_getElem? hk)
  have R3 := hR2.setSpot q g cap l hx i s { s with text := t } hk 1 (.string t) (by omega) rfl ⟨hsp.ch, hsp.chl, hsp.chr, hsp.tm, hsp.tml, hsp.tmr⟩
  have R4 := R3.below hb
  have hx3 := row_set (S := S2) hql (.slice (some ⟨g, 0, none⟩) l.length cap, l.set i { s with text := t })
  have hx3' : ({ S2 with rows := S2.rows.set q (.slice (some ⟨g, 0, none⟩) l.length cap, l.set i { s with text := t }) } : RS).rows[q]? = some (.slice (some ⟨g, 0, none⟩) (l.set i { s with text := t }).length cap, l.set i { s with text := t }) := by
    rw [hx3, List.length_set]
  have hfree : (ρ gc).1 = 0 := hR2.free (by omega)
  have R5 := R4.newCh q hq g cap _ hx3' i { s with text := t } (by simp [hi]) gc cc ch (by unfold intRow; rw [← hchl]; exact ownsRow_base hch (fun _ _ => Nat.zero_le _)) hchl hfree hg2 x
  refine ⟨?_, ?_, (Grow.refl _ _).upd (by omega) _⟩
  · have e : ({ ({ S2 with rows := S2.rows.set q (.slice (some ⟨g, 0, none⟩) l.length cap, l.set i { s with text := t }) } : RS) with rows := ({ S2 with rows := S2.rows.set q (.slice (some ⟨g, 0, none⟩) l.length cap, l.set i { s with text := t }) } : RS).rows.set q (.slice (some ⟨g, 0, none⟩) (l.set i { s with text := t }).length cap, (l.set i { s with text := t }).set i { ({ s with text := t } : SP) with chv := .slice (some ⟨gc, 0, none⟩) S2.n cc, ch := ch.set q x }) } : RS) =
        { S2 with rows := S2.rows.set q (.slice (some ⟨g, 0, none⟩) l.length cap, l.set i { s with text := t, chv := .slice (some ⟨gc, 0, none⟩) S2.n cc, ch := ch.set q x }) } := by
      simp only [List.set_set, List.length_set]
    rw [← e]
    exact R5
  · have f1 : Fr (fun k => (ρ k).1 ≠ 0) w2 (w2.setCell ⟨g, i * 6 + 1, none⟩ (.string t)) := (Fr.refl _ _).setCell (.inl (by simp only; rw [hρ]; simp)) _
    have f2 := f1.trans' (Fr.of_below (S := fun k => (ρ k).1 ≠ 0) hb) (fun _ _ h => h)
    exact (f2.setCell (.inl (by simp only; rw [hρ]; simp)) _).setCell (.inr (by simp only; omega)) _


/-- the first steps of Write where the file was not there -/
theorem write_new {w2 w4 : World} {b : Nat} {ρ : Nat → Nat × Nat} {S2 : RS} (hR2 : RefRep w2 b ρ S2) (q : Nat) (hq : q < S2.n) (g cap : Nat) (l : List SP) (hx : S2.rows[q]? = some (.slice (some ⟨g, 0, none⟩) l.length cap, l)) (i : Nat) (s : SP) (hk : l[i]? = some s) (y x : Int)
    (hb : Below (((w2.setCell ⟨g, i * 6, none⟩ (.bool true)).setCell ⟨g, i * 6 + 2, none⟩ (.int .i64 y)).setCell ⟨g, i * 6 + 3, none⟩ (.int .i64 x)).heap.size (((w2.setCell ⟨g, i * 6, none⟩ (.bool true)).setCell ⟨g, i * 6 + 2, none⟩ (.int .i64 y)).setCell ⟨g, i * 6 + 3, none⟩ (.int .i64 x)) w4)
    (gc cc : Nat) (hg1 : w2.heap.size ≤ gc) (ch : List Int) (base : Nat) (hch : w4.ownsRow base 3 1 (.slice (some ⟨gc, 0, none⟩) S2.n cc) S2.n (ivs ch)) (hchl : ch.length = S2.n) :
    RefRep (w4.setCell ⟨g, i * 6 + 4, none⟩ (.slice (some ⟨gc, 0, none⟩) S2.n cc)) b (upd ρ gc (6, 0))
      { S2 with rows := S2.rows.set q (.slice (some ⟨g, 0, none⟩) l.length cap, l.set i { s with there := true, by_ := y, num := x, chv := .slice (some ⟨gc, 0, none⟩) S2.n cc, ch := ch }) } ∧
    Fr (fun k => (ρ k).1 ≠ 0) w2 (w4.setCell ⟨g, i * 6 + 4, none⟩ (.slice (some ⟨gc, 0, none⟩) S2.n cc)) ∧ Grow w2 ρ (upd ρ gc (6, 0)) := by
  have hql : q < S2.rows.length := by rw [hR2.rowl]; exact hq
  have hρ : ρ g = (5, q) := (hR2.row q _ hx).2 g rfl
  have hi : i < l.length := (List.getElem?_eq_some_iff.1 hk).1
  obtain ⟨_, hg2⟩ := World.ownsRow.lt hch gc rfl
  have hsp := hR2.sp q _ hx s (List.mem_of_getElem? hk)
  have A1 := hR2.setSpot q g cap l hx i s { s with there := true } hk 0 (.bool true) (by omega) rfl ⟨hsp.ch, hsp.chl, hsp.chr, hsp.tm, hsp.tml, hsp.tmr⟩
  have x1 : ({ S2 with rows := S2.rows.set q (.slice (some ⟨g, 0, none⟩) l.length cap, l.set i { s with there := true }) } : RS).rows[q]? = some (.slice (some ⟨g, 0, none⟩) (l.set i { s with there := true }).length cap, l.set i { s with there := true }) := by
    rw [List.length_set]; exact row_set hql _
  have k1 : (l.set i { s with there := true })[i]? = some { s with there := true } := by simp [hi]
  have s1 := A1.sp q _ x1 _ (List.mem_of_getElem? k1)
  have A2 := A1.setSpot q g cap _ x1 i _ { s with there := true, by_ := y } k1 2 (.int .i64 y) (by omega) rfl ⟨s1.ch, s1.chl, s1.chr, s1.tm, s1.tml, s1.tmr⟩
  simp only [List.set_set, List.length_set] at A2
  have x2 : ({ S2 with rows := S2.rows.set q (.slice (some ⟨g, 0, none⟩) l.length cap, l.set i { s with there := true, by_ := y }) } : RS).rows[q]? = some (.slice (some ⟨g, 0, none⟩) (l.set i { s with there := true, by_ := y }).length cap, l.set i { s with there := true, by_ := y }) := by
    rw [List.length_set]; exact row_set hql _
  have k2 : (l.set i { s with there := true, by_ := y })[i]? = some { s with there := true, by_ := y } := by simp [hi]
  have s2 := A2.sp q _ x2 _ (List.mem_of_getElem? k2)
  have A3 := A2.setSpot q g cap _ x2 i _ { s with there := true, by_ := y, num := x } k2 3 (.int .i64 x) (by omega) rfl ⟨s2.ch, s2.chl, s2.chr, s2.tm, s2.tml, s2.tmr⟩
  simp only [List.set_set, List.length_set] at A3
  have hfree : (ρ gc).1 = 0 := hR2.free hg1
  have A4 := (A3.below hb).upd (6, 0) hfree hg2
  have x3 : ({ S2 with rows := S2.rows.set q (.slice (some ⟨g, 0, none⟩) l.length cap, l.set i { s with there := true, by_ := y, num := x }) } : RS).rows[q]? = some (.slice (some ⟨g, 0, none⟩) (l.set i { s with there := true, by_ := y, num := x }).length cap, l.set i { s with there := true, by_ := y, num := x }) := by
    rw [List.length_set]; exact row_set hql _
  have k3 : (l.set i { s with there := true, by_ := y, num := x })[i]? = some { s with there := true, by_ := y, num := x } := by simp [hi]
  have s3 := A4.sp q _ x3 _ (List.mem_of_getElem? k3)
  have A5 := A4.setSpot q g cap _ x3 i _ { s with there := true, by_ := y, num := x, chv := .slice (some ⟨gc, 0, none⟩) S2.n cc, ch := ch } k3 4 (.slice (some ⟨gc, 0, none⟩) S2.n cc) (by omega) rfl
    ⟨by unfold intRow; rw [hchl]; exact ownsRow_base hch (fun _ _ => Nat.zero_le _), hchl, by intro k hk; simp [Value.ownBlock] at hk; subst hk; simp [upd], s3.tm, s3.tml, s3.tmr⟩
  simp only [List.set_set, List.length_set] at A5
  refine ⟨A5, ?_, (Grow.refl _ _).upd hg1 _⟩
  have f1 : Fr (fun k => (ρ k).1 ≠ 0) w2 (((w2.setCell ⟨g, i * 6, none⟩ (.bool true)).setCell ⟨g, i * 6 + 2, none⟩ (.int .i64 y)).setCell ⟨g, i * 6 + 3, none⟩ (.int .i64 x)) :=
    (((Fr.refl _ _).setCell (.inl (by simp only; rw [hρ]; simp)) _).setCell (.inl (by simp only; rw [hρ]; simp)) _).setCell (.inl (by simp only; rw [hρ]; simp)) _
  exact (f1.trans' (Fr.of_below (S := fun k => (ρ k).1 ≠ 0) hb) (fun _ _ h => h)).setCell (.inl (by simp only; rw [hρ]; simp)) _

/-- all of it together: what Write leaves -/
theorem write_fin {w w1 w2 wf : World} {b : Nat} {ρ ρ1 ρ2 : Nat → Nat × Nat} {S S1 : RS} {A : Abs} (T : After w b ρ S A w1 ρ1 S1) (q : Nat) (hq : q < S1.n) (g cap : Nat) (l : List SP) (hx : S1.rows[q]? = some (.slice (some ⟨g, 0, none⟩) l.length cap, l)) (i : Nat) (s : SP) (hk : l[i]? = some s)
    (p : ByteArray) (hp : S1.paths[i]? = some p) (x : Int) (hx0 : 0 ≤ x) (cw : Value) (cl : List Int) (hc : S1.coms[q]? = some (cw, cl)) (hF2 : Fr (fun k => (ρ1 k).1 ≠ 0) w1 w2) (sf : SP) (htm : sf.tm = s.tm.set q x)
    (hR : RefRep wf b ρ2 { S1 with coms := S1.coms.set q (cw, cl.set q x), rows := S1.rows.set q (.slice (some ⟨g, 0, none⟩) l.length cap, (l.map (tmSet q x)).set i sf) }) (hF : Fr (fun k => (ρ1 k).1 ≠ 0) w2 wf) (hG : Grow w2 ρ1 ρ2) :
    After w b ρ S (A.set q (if sf.there = true then put p sf.text (A.F q) else del p (A.F q)) x) wf ρ2 { S1 with coms := S1.coms.set q (cw, cl.set q x), rows := S1.rows.set q (.slice (some ⟨g, 0, none⟩) l.length cap, (l.map (tmSet q x)).set i sf) } := by
  have hs : s.tm = cl := T.inv.tm q _ l cw cl hx hc s (List.mem_of_getElem? hk)
  exact T.chain hR (T.inv.spotSet T.rep q hq x hx0 _ _ cw l cl hx hc i p hp sf (by rw [htm, hs])) (hF2.trans hF) ((Grow.refl _ _).trans hF2.size hG) rfl rfl

theorem write_put {w w1 w2 wf : World} {b : Nat} {ρ ρ1 ρ2 : Nat → Nat × Nat} {S S1 : RS} {A A' : Abs} (T : After w b ρ S A w1 ρ1 S1) (q : Nat) (hq : q < S1.n) (g cap : Nat) (l : List SP) (hx : S1.rows[q]? = some (.slice (some ⟨g, 0, none⟩) l.length cap, l)) (i : Nat) (s : SP) (hk : l[i]? = some s)
    (p t : ByteArray) (hp : S1.paths[i]? = some p) (x : Int) (hx0 : 0 ≤ x) (cw : Value) (cl : List Int) (hc : S1.coms[q]? = some (cw, cl)) (hF2 : Fr (fun k => (ρ1 k).1 ≠ 0) w1 w2) (sf : SP) (htm : sf.tm = s.tm.set q x) (hth : sf.there = true) (hte : sf.text = t) (hA' : A' = A.set q (put p t (A.F q)) x)
    (hR : RefRep wf b ρ2 { S1 with coms := S1.coms.set q (cw, cl.set q x), rows := S1.rows.set q (.slice (some ⟨g, 0, none⟩) l.length cap, (l.map (tmSet q x)).set i sf) }) (hF : Fr (fun k => (ρ1 k).1 ≠ 0) w2 wf) (hG : Grow w2 ρ1 ρ2) :
    ∃ ρ' S', After w b ρ S A' wf ρ' S' := by
  have := write_fin T q hq g cap l hx i s hk p hp x hx0 cw cl hc hF2 sf htm hR hF hG
  rw [if_pos hth, hte, ← hA'] at this
  exact ⟨_, _, this⟩

theorem writeE_ok {A : Abs} {q : Nat} {p t : ByteArray} (ho : A.out (q : Int) = false) (hp : pathOk p = true) (ht : ¬ 60 < t.size) :
    A.writeE q p t = if 1000000000 ≤ A.c q ∨ (get p (A.F q) = none ∧ 20 ≤ (A.F q).length) then 5 else 0 := by
  unfold Abs.writeE
  rw [if_neg (by rw [ho]; simp), if_neg (by rw [hp]; simp), if_neg ht, Int.toNat_natCast]

set_option maxHeartbeats 1000000 in
theorem refWrite_any (b : Nat) (r : Int) (p t : ByteArray) (ρ : Nat → Nat × Nat) (S : RS) (A : Abs) (w : World) (h : RefRep w b ρ S) (hI : RInv S A) (hm : S.paths.length ≤ 100000000) (hs : p.size ≤ maxLen) (hts : t.size ≤ maxLen) :
    Calls Tryz.prog 83 #[.pointer (some ⟨b, 0, none⟩), .int .i64 r, .string p, .string t] w fun e w' => ∃ ρ' S', e = .returned (.int .i64 (A.writeE r p t)) ∧ After w b ρ S (A.write r p t) w' ρ' S' := by
  unfold maxLen at hts
  cases ho : A.out r with
  | true =>
    have e1 : A.writeE r p t = 1 := by unfold Abs.writeE; rw [if_pos ho]
    have e2 : A.write r p t = A := by unfold Abs.write; rw [e1]; rfl
    rw [e1, e2]
    have H := hide (After.refl h hI)
    have C := hide (asked_bad b r p ρ S A w h hI hs ho)
    clear h hI e1 e2
    go_enter Tryz.func83, Tryz.ntmps83
    go_wp2_with (go_at_call 150; refine C.out.mono ?_; rintro e w' ⟨rfl, rfl⟩)
    go_ret
    exact ⟨ρ, S, rfl, H.out⟩
  | false =>
    cases hp : pathOk p with
    | false =>
      have e1 : A.writeE r p t = 2 := by unfold Abs.writeE; rw [if_neg (by rw [ho]; simp), if_pos hp]
      have e2 : A.write r p t = A := by unfold Abs.write; rw [e1]; rfl
      rw [e1, e2]
      have H := hide (After.refl h hI)
      have C := hide (asked_path b r p ρ S A w h hI hs ho hp)
      clear h hI e1 e2
      go_enter Tryz.func83, Tryz.ntmps83
      go_wp2_with (go_at_call 150; refine C.out.mono ?_; rintro e w' ⟨rfl, rfl⟩)
      go_ret
      exact ⟨ρ, S, rfl, H.out⟩
    | true =>
      have C := hide (asked_ok b r p ρ S A w h hI hs ho hp)
      by_cases hlong : 60 < t.size
      · have e1 : A.writeE r p t = 3 := by unfold Abs.writeE; rw [if_neg (by rw [ho]; simp), if_neg (by rw [hp]; simp), if_pos hlong]
        have e2 : A.write r p t = A := by unfold Abs.write; rw [e1]; rfl
        rw [e1, e2]
        have H := hide (After.refl h hI)
        clear h hI e1 e2
        go_enter Tryz.func83, Tryz.ntmps83
        go_wp2_with (go_at_call 150; refine C.out.mono ?_; rintro e w' ⟨rfl, rfl⟩)
        go_ret
        exact ⟨ρ, S, rfl, H.out⟩
      · have D := hide (place_any b p ρ S A w h hI hm)
        have HPO := hide hp
        obtain ⟨q, rfl, hq⟩ := out_nat ho
        have e1 := hide (writeE_ok ho hp hlong)
        have hqn : q < S.n := by rw [← hI.n]; exact hq
        clear h hI ho hp hq
        go_enter Tryz.func83, Tryz.ntmps83
        go_wp2_with fail
        refine C.out.mono ?_
        rintro e w ⟨rfl, rfl⟩
        go_wp2_with fail
        refine D.out.mono ?_
        rintro e w1 ⟨ρ', S', i, rfl, hR, hI', hG, hF, hpi, hn', hl', hsub⟩
        obtain ⟨sg, sc, g, cap, l, s, es, h3, hsr, hx, hks, hll, hA, hP, hg, hc, _⟩ := spot_at hR hI' q (by omega) i p hpi
        have hget := hP.get
        rw [← hA, rowM_head] at hget
        have c0 : w1.cell? ⟨g, i * 6, none⟩ = some (.bool s.there) := by simpa [SP.cells] using hc 0 (by omega)
        have hil : i < l.length := (List.getElem?_eq_some_iff.1 hks).1
        have hn6 := hR.n6
        have T := hide (⟨hR, hI', hG, hF, hn', hl', fun q hq => (hsub q hq).imp id (fun e => by rw [e]; exact HPO.out)⟩ : After w b ρ S A w1 ρ' S')
        have hqn' : q < S'.n := by omega
        have hcnt := hI'.cnt q hqn'
        have hfl : (A.F q).length = filesOf l := by rw [hI'.files q _ l hx, rowF_length _ _ (by omega)]
        have HX := hide hx
        have HKS := hide hks
        have HPI := hide hpi
        have HGET := hide hget
        have HFL := hide hfl
        have SP1 := hide (spent_any b q ρ' S' w1 hR hqn')
        have FI1 := hide (files_any b q ρ' S' w1 hR hqn')
        have AC1 := hide (acts_any b q ρ' S' w1 hR hqn' (by rw [← hcnt.1]; exact hcnt.2))
        rw [← hcnt.1] at SP1 AC1
        have HC0 := hide hcnt.2
        clear hks hx es hA hP hc hpi hG hF hl' hll hI' hR hn' hget hcnt hfl
        by_cases hsp : 1000000000 ≤ A.c q
        · have E1 : Hid (A.writeE q p t = 5) := by unfold Hid; rw [e1.out, if_pos (.inl hsp)]
          have E2 : Hid (A.write q p t = A) := by unfold Hid Abs.write; rw [E1.out]; rfl
          have hd : decide (1000000000 ≤ A.c q) = true := by simp [hsp]
          rw [hd] at SP1
          clear hd e1
          generalize S'.n = n at *
          go_wp2_with (go_at_call 151; refine SP1.out.mono ?_; rintro e w' ⟨rfl, rfl⟩)
          go_ret
          exact ⟨ρ', S', ret_int (E1.out.symm), by rw [E2.out]; exact T.out⟩
        · have hd : decide (1000000000 ≤ A.c q) = false := by simp; omega
          rw [hd] at SP1
          clear hd
          cases ht : s.there with
          | true =>
            rw [ht] at c0 HGET
            rw [if_pos rfl] at HGET
            have E1 : Hid (A.writeE q p t = 0) := by unfold Hid; rw [e1.out, if_neg (by rintro (q1 | ⟨q2, _⟩); exact hsp q1; rw [HGET.out] at q2; cases q2)]
            have E2 : Hid (A.write q p t = A.set q (put p t (A.F q)) (A.c q + 1)) := by unfold Hid Abs.write; rw [E1.out, Int.toNat_natCast]; rfl
            clear e1 HGET
            have HT := hide ht
            clear ht
            have hsp' : A.c q < 1000000000 := by omega
            have HCX := hide (rfl : A.c q + 1 = A.c q + 1)
            go_wp2_with fail
            refine SP1.out.mono ?_
            rintro e w1 ⟨rfl, rfl⟩
            go_wp2_with fail
            refine (AC1.out hsp').mono ?_
            rintro e w2 ⟨cw, cl, v, l0, hxc, hxr, rfl, hR2, hF2, hz2⟩
            rw [HX.out] at hxr
            simp at hxr
            obtain ⟨rfl, rfl⟩ := hxr
            have hql : q < S'.rows.length := (List.getElem?_eq_some_iff.1 HX.out).1
            obtain ⟨hx2, hk2⟩ := acted_row (x := A.c q + 1) (cw := cw) (cl := cl) hql HKS.out
            obtain ⟨sg2, sc2, gc0, cc0, gt0, ct0, b3, bs, six⟩ := hR2.access q hqn' g cap _ hx2 i _ hk2
            have hsp2 := hR2.sp q _ hx2 _ (List.mem_of_getElem? hk2)
            have hρg : ρ' g = (5, q) := (hR2.row q _ hx2).2 g rfl
            have HCH := hide (ownsRow_far (a := ⟨g, i * 6 + 1, none⟩) (u := .string t) hsp2.ch hsp2.chr hρg (by simp))
            rw [six.ch] at HCH
            have hchl : s.ch.length = S'.n := hsp2.chl
            have hn1 : 1 ≤ S'.n := hR2.n1
            have hgl : g < w2.heap.size := hR2.lt g (by rw [hρg]; simp)
            have m1 := six.c1
            have m4 := six.c4
            have mf := six.fz
            have R2 := hide hR2
            have TL := hide (fun w4 hb gc cc ch hch hchl => write_tail (w4 := w4) hR2 q hqn' g cap _ hx2 i _ hk2 t hb gc cc ch hch hchl (A.c q + 1))
            have F2 := hide hF2
            have XC := hide hxc
            have X2 := hide hx2
            have K2 := hide hk2
            have CL := hide hchl
            clear hR2 hF2 hxc hx2 hk2 hsp2 six hz2 hchl
            generalize hN : S'.n = n at *
            have HN := hide hN
            clear hN
            generalize hX : A.c q + 1 = x at *
            have HX1 := hide hX
            clear hX
            rw [List.length_map] at bs
            go_wp2_with fail
            refine (copied_form _ s.ch _ HCH.out (by rw [CL.out]; omega) (by rw [CL.out]; omega)).mono ?_
            rintro e w4 ⟨gc, cc, rfl, ho4, hg4, hl4, hb4⟩
            have TT := hide (TL.out w4 hb4 gc cc s.ch ho4 (by rw [CL.out]))
            rw [CL.out] at ho4 ⊢
            have hne : gc ≠ g := by rw [size_setCell] at hg4; omega
            have n4 : w4.cell? ⟨g, i * 6 + 4, none⟩ = some (.slice (some ⟨gc0, 0, none⟩) n cc0) := by rw [hb4.cell (by rw [size_setCell]; exact hgl)]; exact (World.cell?_setCell_other w2 ⟨g, i * 6 + 1, none⟩ ⟨g, i * 6 + 4, none⟩ (.string t) (by simp)).trans m4
            have nf : w4.frozen? ⟨g, i * 6 + 4, none⟩ = false := by rw [hb4.frozen (by rw [size_setCell]; exact hgl), World.frozen?_setCell]; exact mf _
            have nq : w4.cell? ⟨gc, q, none⟩ = some (.int .i64 (s.ch.getD q 0)) := by rw [World.ownsRow.cellAt ho4 q (by omega)]; exact ivs_get _ _ (by rw [CL.out]; exact hqn')
            have nqf : w4.frozen? ⟨gc, q, none⟩ = false := World.ownsRow.frozenAt ho4 q
            generalize s.ch.getD q 0 = z at nq
            clear ho4 hg4 hl4 hb4 m1 m4 mf b3 bs HCH TL
            go_wp2
            go_ret
            have hN := HN.out
            have hX := HX1.out
            subst hN
            subst hX
            obtain ⟨RT, FT, GT⟩ := TT.out
            simp only [List.set_set, List.length_map] at RT
            obtain ⟨ρf, Sf, fin⟩ := write_put T.out q hqn' g cap l HX.out i s HKS.out p t HPI.out (A.c q + 1) (by have := HC0.out; omega) cw cl XC.out F2.out { tmSet q (A.c q + 1) s with text := t, chv := .slice (some ⟨gc, 0, none⟩) S'.n cc, ch := s.ch.set q (A.c q + 1) } rfl HT.out rfl E2.out RT FT GT
            exact ⟨ρf, Sf, ret_int E1.out.symm, fin⟩
          | false =>
            rw [ht] at c0 HGET
            rw [if_neg (by simp)] at HGET
            by_cases hfu : 20 ≤ filesOf l
            · have E1 : Hid (A.writeE q p t = 5) := by unfold Hid; rw [e1.out, if_pos (.inr ⟨HGET.out, by rw [HFL.out]; exact hfu⟩)]
              have E2 : Hid (A.write q p t = A) := by unfold Hid Abs.write; rw [E1.out]; rfl
              clear e1 HGET ht
              generalize hN : S'.n = n at *
              have HN := hide hN
              clear hN
              go_wp2_with (first | (go_at_call 151; refine SP1.out.mono ?_; rintro e w1 ⟨rfl, rfl⟩) | (go_at_call 60; refine FI1.out.mono ?_; rintro e w1 ⟨v, l0, hxr, rfl, rfl⟩; rw [HX.out] at hxr; simp at hxr; obtain ⟨rfl, rfl⟩ := hxr))
              go_ret
              exact ⟨ρ', S', ret_int (E1.out.symm), by rw [E2.out]; exact T.out⟩
            · have E1 : Hid (A.writeE q p t = 0) := by unfold Hid; rw [e1.out, if_neg (by rintro (q1 | ⟨_, q2⟩); exact hsp q1; rw [HFL.out] at q2; exact hfu q2)]
              have E2 : Hid (A.write q p t = A.set q (put p t (A.F q)) (A.c q + 1)) := by unfold Hid Abs.write; rw [E1.out, Int.toNat_natCast]; rfl
              clear e1 HGET
              have HT := hide ht
              clear ht
              have hsp' : A.c q < 1000000000 := by omega
              go_wp2_with fail
              refine SP1.out.mono ?_
              rintro e w1 ⟨rfl, rfl⟩
              go_wp2_with fail
              refine FI1.out.mono ?_
              rintro e w1 ⟨v, l0, hxr, rfl, rfl⟩
              rw [HX.out] at hxr
              simp at hxr
              obtain ⟨rfl, rfl⟩ := hxr
              go_wp2_with fail
              refine (AC1.out hsp').mono ?_
              rintro e w2 ⟨cw, cl, v, l0, hxc, hxr, rfl, hR2, hF2, hz2⟩
              rw [HX.out] at hxr
              simp at hxr
              obtain ⟨rfl, rfl⟩ := hxr
              have hql : q < S'.rows.length := (List.getElem?_eq_some_iff.1 HX.out).1
              obtain ⟨hx2, hk2⟩ := acted_row (x := A.c q + 1) (cw := cw) (cl := cl) hql HKS.out
              obtain ⟨sg2, sc2, gc0, cc0, gt0, ct0, b3, bs, six⟩ := hR2.access q hqn' g cap _ hx2 i _ hk2
              have hρg : ρ' g = (5, q) := (hR2.row q _ hx2).2 g rfl
              have hn1 : 1 ≤ S'.n := hR2.n1
              have hgl : g < w2.heap.size := hR2.lt g (by rw [hρg]; simp)
              have hbg : b ≠ g := by rintro rfl; rw [hR2.rb] at hρg; simp at hρg
              have b0 := hR2.c0
              have m0 := six.c0
              have m1 := six.c1
              have m2 := six.c2
              have m3 := six.c3
              have m4 := six.c4
              have mf := six.fz
              have NW := hide (fun w4 hb gc cc hg1 ch base hch hchl => write_new (w4 := w4) hR2 q hqn' g cap _ hx2 i _ hk2 q (A.c q + 1) hb gc cc hg1 ch base hch hchl)
              have F2 := hide hF2
              have XC := hide hxc
              have hil2 : i < (l.map (tmSet q (A.c q + 1))).length := by rw [List.length_map]; exact hil
              have hql2 : q < (S'.rows.set q (.slice (some ⟨g, 0, none⟩) l.length cap, l.map (tmSet q (A.c q + 1)))).length := by rw [List.length_set]; exact hql
              clear hR2 hF2 hxc hx2 hk2 six hz2
              rw [List.length_map] at bs
              go_wp2_with fail
              refine (zeros_form S'.n hn1 hn6 _).mono ?_
              rintro e wB ⟨gz, cz, rfl, hoz, hgz, hlz, hbz⟩
              have hsz : (((w2.setCell ⟨g, i * 6, none⟩ (.bool true)).setCell ⟨g, i * 6 + 2, none⟩ (.int .i64 q)).setCell ⟨g, i * 6 + 3, none⟩ (.int .i64 (A.c q + 1))).heap.size = w2.heap.size := by rw [size_setCell, size_setCell, size_setCell]
              obtain ⟨RC, FC, GC⟩ := NW.out wB hbz gz cz (by rw [hsz] at hgz; exact hgz) (List.replicate S'.n 0) _ hoz (by simp)
              simp only [List.set_set, List.length_map] at RC
              have n4 : wB.cell? ⟨g, i * 6 + 4, none⟩ = some (.slice (some ⟨gc0, 0, none⟩) S'.n cc0) := by
                rw [hbz.cell (by rw [hsz]; exact hgl), World.cell?_setCell_other _ ⟨g, i * 6 + 3, none⟩ ⟨g, i * 6 + 4, none⟩ _ (by simp), World.cell?_setCell_other _ ⟨g, i * 6 + 2, none⟩ ⟨g, i * 6 + 4, none⟩ _ (by simp), World.cell?_setCell_other _ ⟨g, i * 6, none⟩ ⟨g, i * 6 + 4, none⟩ _ (by simp)]
                exact m4
              have n1 : wB.cell? ⟨g, i * 6 + 1, none⟩ = some (.string s.text) := by
                rw [hbz.cell (by rw [hsz]; exact hgl), World.cell?_setCell_other _ ⟨g, i * 6 + 3, none⟩ ⟨g, i * 6 + 1, none⟩ _ (by simp), World.cell?_setCell_other _ ⟨g, i * 6 + 2, none⟩ ⟨g, i * 6 + 1, none⟩ _ (by simp), World.cell?_setCell_other _ ⟨g, i * 6, none⟩ ⟨g, i * 6 + 1, none⟩ _ (by simp)]
                exact m1
              have nf : ∀ k, wB.frozen? ⟨g, k, none⟩ = false := fun k => by
                rw [hbz.frozen (by rw [hsz]; exact hgl), World.frozen?_setCell, World.frozen?_setCell, World.frozen?_setCell]; exact mf k
              have hglB : g < wB.heap.size := by have := hbz.size; omega
              have hxC : ({ S' with coms := S'.coms.set q (cw, cl.set q (A.c q + 1)), rows := S'.rows.set q (.slice (some ⟨g, 0, none⟩) l.length cap, (l.map (tmSet q (A.c q + 1))).set i { tmSet q (A.c q + 1) s with there := true, by_ := q, num := A.c q + 1, chv := .slice (some ⟨gz, 0, none⟩) S'.n cz, ch := List.replicate S'.n 0 }) } : RS).rows[q]? =
                  some (.slice (some ⟨g, 0, none⟩) ((l.map (tmSet q (A.c q + 1))).set i { tmSet q (A.c q + 1) s with there := true, by_ := q, num := A.c q + 1, chv := .slice (some ⟨gz, 0, none⟩) S'.n cz, ch := List.replicate S'.n 0 }).length cap, (l.map (tmSet q (A.c q + 1))).set i { tmSet q (A.c q + 1) s with there := true, by_ := q, num := A.c q + 1, chv := .slice (some ⟨gz, 0, none⟩) S'.n cz, ch := List.replicate S'.n 0 }) := by
                rw [List.length_set, List.length_map]
                simp [hql]
              have hkC : ((l.map (tmSet q (A.c q + 1))).set i { tmSet q (A.c q + 1) s with there := true, by_ := q, num := A.c q + 1, chv := .slice (some ⟨gz, 0, none⟩) S'.n cz, ch := List.replicate S'.n 0 })[i]? = some { tmSet q (A.c q + 1) s with there := true, by_ := q, num := A.c q + 1, chv := .slice (some ⟨gz, 0, none⟩) S'.n cz, ch := List.replicate S'.n 0 } := by
                rw [List.getElem?_set_self (by rw [List.length_map]; exact hil)]
              have TL := hide (fun w4 hb gc cc ch hch hchl => write_tail (w4 := w4) RC q hqn' g cap _ hxC i _ hkC t hb gc cc ch hch hchl (A.c q + 1))
              have spC := RC.sp q _ hxC _ (List.mem_of_getElem? hkC)
              have hρC : (upd ρ' gz (6, 0)) g = (5, q) := (RC.row q _ hxC).2 g rfl
              have HCH := hide (ownsRow_far (a := ⟨g, i * 6 + 1, none⟩) (u := .string t) spC.ch spC.chr hρC (by simp))
              have FCH := hide FC
              have GCH := hide GC
              have hneB : gz ≠ g := by rw [hsz] at hgz; omega
              clear RC FC GC spC hoz hgz hlz hbz hsz NW b0 m0 m1 m2 m3 m4 mf bs b3 hxC hkC
              go_wp2_with fail
              refine (copied_form _ (List.replicate S'.n 0) _ HCH.out (by simp; omega) (by simp; omega)).mono ?_
              rintro e w4 ⟨gc, cc, rfl, ho4, hg4, hl4, hb4⟩
              have TT := hide (TL.out w4 hb4 gc cc (List.replicate S'.n 0) ho4 (by simp))
              rw [List.length_replicate] at ho4 ⊢
              have hne : gc ≠ g := by rw [size_setCell, size_setCell] at hg4; omega
              have p4 : w4.cell? ⟨g, i * 6 + 4, none⟩ = some (.slice (some ⟨gz, 0, none⟩) S'.n cz) := by
                rw [hb4.cell (by rw [size_setCell, size_setCell]; exact hglB), World.cell?_setCell_other _ ⟨g, i * 6 + 1, none⟩ ⟨g, i * 6 + 4, none⟩ _ (by simp)]
                exact World.cell?_setCell_same _ _ _ n4
              have pf : w4.frozen? ⟨g, i * 6 + 4, none⟩ = false := by rw [hb4.frozen (by rw [size_setCell, size_setCell]; exact hglB), World.frozen?_setCell, World.frozen?_setCell]; exact nf _
              have pq : w4.cell? ⟨gc, q, none⟩ = some (.int .i64 ((List.replicate S'.n (0 : Int)).getD q 0)) := by rw [World.ownsRow.cellAt ho4 q (by omega)]; exact ivs_get _ _ (by simp; exact hqn')
              have pqf : w4.frozen? ⟨gc, q, none⟩ = false := World.ownsRow.frozenAt ho4 q
              generalize (List.replicate S'.n (0 : Int)).getD q 0 = z at pq
              clear ho4 hg4 hl4 hb4 n1 n4 nf HCH TL
              go_wp2
              go_ret
              obtain ⟨RT, FT, GT⟩ := TT.out
              simp only [List.set_set, List.length_set, List.length_map] at RT
              have FT' := FCH.out.trans' FT (fun k hk' hu => by
                unfold upd at hu
                by_cases e : k = gz
                · subst e; have := GCH.out k (by simp [upd]); rcases this with u | u; exact u; omega
                · rw [if_neg e] at hu; exact hu)
              obtain ⟨ρf, Sf, fin⟩ := write_put T.out q hqn' g cap l HX.out i s HKS.out p t HPI.out (A.c q + 1) (by have := HC0.out; omega) cw cl XC.out F2.out { tmSet q (A.c q + 1) s with there := true, by_ := q, num := A.c q + 1, text := t, chv := .slice (some ⟨gc, 0, none⟩) S'.n cc, ch := (List.replicate S'.n 0).set q (A.c q + 1) } rfl rfl rfl E2.out RT FT' (GCH.out.trans FCH.out.size GT)
              exact ⟨ρf, Sf, ret_int E1.out.symm, fin⟩

end Go.Proofs.YtaelaldmibgibaaGreatDoor

namespace Go.Proofs.YtaelaldmibgibaaGreatDoor
open Go.RowKit
attribute [local go_sem ↓] Go.wp_at_zero Go.wp_at_succ

/-- the world where a spot's four plain cells are cleared -/
def cleared (w : World) (g o : Nat) : World := (((w.setCell ⟨g, o, none⟩ (.bool false)).setCell ⟨g, o + 1, none⟩ (.string ⟨#[]⟩)).setCell ⟨g, o + 2, none⟩ (.int .i64 0)).setCell ⟨g, o + 3, none⟩ (.int .i64 0)
theorem cleared_size (w : World) (g o : Nat) : (cleared w g o).heap.size = w.heap.size := by unfold cleared; rw [size_setCell, size_setCell, size_setCell, size_setCell]

theorem cleared_cell (w : World) (g o k j : Nat) (h : k ≠ g) : (cleared w g o).cell? ⟨k, j, none⟩ = w.cell? ⟨k, j, none⟩ := by
  unfold cleared
  rw [World.cell?_setCell_far _ _ _ _ (by exact Ne.symm h), World.cell?_setCell_far _ _ _ _ (by exact Ne.symm h), World.cell?_setCell_far _ _ _ _ (by exact Ne.symm h), World.cell?_setCell_far _ _ _ _ (by exact Ne.symm h)]

/-- cells of other blocks behind gone -/
theorem gone_far {w wB : World} {g o k j : Nat} {u : Value} (hb : Below (cleared w g o).heap.size (cleared w g o) wB) (h : k ≠ g) (hk : k < w.heap.size) : (wB.setCell ⟨g, o + 4, none⟩ u).cell? ⟨k, j, none⟩ = w.cell? ⟨k, j, none⟩ := by
  rw [World.cell?_setCell_far _ _ _ _ (by exact Ne.symm h), hb.cell (by rw [cleared_size]; exact hk), cleared_cell w g o k j h]

/-- the blocks on the road to a spot are others than its row -/
theorem RefRep.road {w : World} {b : Nat} {ρ : Nat → Nat × Nat} {S : RS} (h : RefRep w b ρ S) (q g : Nat) (hρ : ρ g = (5, q)) (sg sc : Nat) (h3 : w.cell? ⟨b, 3, none⟩ = some (.slice (some ⟨sg, 0, none⟩) S.n sc)) : b ≠ g ∧ b < w.heap.size ∧ sg ≠ g ∧ sg < w.heap.size := by
  have e : S.sv = .slice (some ⟨sg, 0, none⟩) S.n sc := by rw [h.c3] at h3; simpa using h3
  have r1 : ρ sg = (8, 0) := h.rs sg (by rw [e]; rfl)
  refine ⟨?_, h.lt b (by rw [h.rb]; decide), ?_, h.lt sg (by rw [r1]; decide)⟩
  · rintro rfl; rw [h.rb] at hρ; simp at hρ
  · rintro rfl; rw [r1] at hρ; simp at hρ

set_option maxHeartbeats 400000 in
theorem gone_any (g o n : Nat) (w : World) (v0 v1 v2 v3 v4 : Value) (h1 : 1 ≤ n) (h6 : n ≤ 6) (hg : g < w.heap.size) (c0 : w.cell? ⟨g, o, none⟩ = some v0) (c1 : w.cell? ⟨g, o + 1, none⟩ = some v1) (c2 : w.cell? ⟨g, o + 2, none⟩ = some v2) (c3 : w.cell? ⟨g, o + 3, none⟩ = some v3) (c4 : w.cell? ⟨g, o + 4, none⟩ = some v4)
    (hf : ∀ k, w.frozen? ⟨g, k, none⟩ = false) :
    Calls Tryz.prog 154 #[.pointer (some ⟨g, o, none⟩), .int .i64 n] w fun e w' => e = .returned (.tuple #[]) ∧ ∃ gz cz wB, Below (cleared w g o).heap.size (cleared w g o) wB ∧
      wB.ownsRow (cleared w g o).heap.size 3 1 (.slice (some ⟨gz, 0, none⟩) n cz) n (ivs (List.replicate n 0)) ∧ w.heap.size ≤ gz ∧ w' = wB.setCell ⟨g, o + 4, none⟩ (.slice (some ⟨gz, 0, none⟩) n cz) := by
  have CS := hide (cleared_size w g o)
  have CW : Hid (cleared w g o = (((w.setCell ⟨g, o, none⟩ (.bool false)).setCell ⟨g, o + 1, none⟩ (.string ⟨#[]⟩)).setCell ⟨g, o + 2, none⟩ (.int .i64 0)).setCell ⟨g, o + 3, none⟩ (.int .i64 0)) := rfl
  have C4 : Hid ((cleared w g o).cell? ⟨g, o + 4, none⟩ = some v4) := by
    unfold Hid cleared
    rw [World.cell?_setCell_other _ ⟨g, o + 3, none⟩ ⟨g, o + 4, none⟩ _ (by simp), World.cell?_setCell_other _ ⟨g, o + 2, none⟩ ⟨g, o + 4, none⟩ _ (by simp), World.cell?_setCell_other _ ⟨g, o + 1, none⟩ ⟨g, o + 4, none⟩ _ (by simp), World.cell?_setCell_other _ ⟨g, o, none⟩ ⟨g, o + 4, none⟩ _ (by simp)]
    exact c4
  have CF : Hid ((cleared w g o).frozen? ⟨g, o + 4, none⟩ = false) := by
    unfold Hid cleared
    rw [World.frozen?_setCell, World.frozen?_setCell, World.frozen?_setCell, World.frozen?_setCell]
    exact hf _
  go_enter Tryz.func154, Tryz.ntmps154
  go_wp2_with fail
  rw [← CW.out]
  refine (zeros_form n h1 h6 _).mono ?_
  rintro e wB ⟨gz, cz, rfl, hoz, hgz, hlz, hbz⟩
  have n4 : wB.cell? ⟨g, o + 4, none⟩ = some v4 := (hbz.cell (p := ⟨g, o + 4, none⟩) (by rw [CS.out]; exact hg)).trans C4.out
  have nf : wB.frozen? ⟨g, o + 4, none⟩ = false := (hbz.frozen (p := ⟨g, o + 4, none⟩) (by rw [CS.out]; exact hg)).trans CF.out
  have H1 := hide hbz
  have H2 := hide hoz
  have H3 := hide hgz
  clear hbz hoz hgz hlz c0 c1 c2 c3 c4 hf
  go_wp2
  go_end0
  exact ⟨rfl, gz, cz, wB, H1.out, H2.out, by rw [← CS.out]; exact H3.out, rfl⟩

/-- what it leaves of a net -/
theorem gone_tail {w2 w4 : World} {b : Nat} {ρ : Nat → Nat × Nat} {S2 : RS} (hR2 : RefRep w2 b ρ S2) (q : Nat) (hq : q < S2.n) (g cap : Nat) (l : List SP) (hx : S2.rows[q]? = some (.slice (some ⟨g, 0, none⟩) l.length cap, l)) (i : Nat) (s : SP) (hk : l[i]? = some s)
    (hb : Below (cleared w2 g (i * 6)).heap.size (cleared w2 g (i * 6)) w4)
    (gc cc : Nat) (hg1 : w2.heap.size ≤ gc) (ch : List Int) (base : Nat) (hch : w4.ownsRow base 3 1 (.slice (some ⟨gc, 0, none⟩) S2.n cc) S2.n (ivs ch)) (hchl : ch.length = S2.n) :
    RefRep (w4.setCell ⟨g, i * 6 + 4, none⟩ (.slice (some ⟨gc, 0, none⟩) S2.n cc)) b (upd ρ gc (6, 0))
      { S2 with rows := S2.rows.set q (.slice (some ⟨g, 0, none⟩) l.length cap, l.set i { s with there := false, text := ⟨#[]⟩, by_ := 0, num := 0, chv := .slice (some ⟨gc, 0, none⟩) S2.n cc, ch := ch }) } ∧
    Fr (fun k => (ρ k).1 ≠ 0) w2 (w4.setCell ⟨g, i * 6 + 4, none⟩ (.slice (some ⟨gc, 0, none⟩) S2.n cc)) ∧ Grow w2 ρ (upd ρ gc (6, 0)) := by
  have hql : q < S2.rows.length := by rw [hR2.rowl]; exact hq
  have hρ : ρ g = (5, q) := (hR2.row q _ hx).2 g rfl
  have hi : i < l.length := (List.getElem?_eq_some_iff.1 hk).1
  obtain ⟨_, hg2⟩ := World.ownsRow.lt hch gc rfl
  have step : ∀ (W : World) (t t' : SP) (j : Nat) (u : Value), RefRep W b ρ { S2 with rows := S2.rows.set q (.slice (some ⟨g, 0, none⟩) l.length cap, l.set i t) } → j < 6 → t'.cells = t.cells.set j u → t'.chv = t.chv → t'.ch = t.ch → t'.tmv = t.tmv → t'.tm = t.tm →
      RefRep (W.setCell ⟨g, i * 6 + j, none⟩ u) b ρ { S2 with rows := S2.rows.set q (.slice (some ⟨g, 0, none⟩) l.length cap, l.set i t') } := by
    intro W t t' j u hW hj hc e1 e2 e3 e4
    have x1 : ({ S2 with rows := S2.rows.set q (.slice (some ⟨g, 0, none⟩) l.length cap, l.set i t) } : RS).rows[q]? = some (.slice (some ⟨g, 0, none⟩) (l.set i t).length cap, l.set i t) := by
      rw [List.length_set]; exact row_set hql _
    have k1 : (l.set i t)[i]? = some t := by simp [hi]
    have s1 := hW.sp q _ x1 _ (List.mem_of_getElem? k1)
    have A := hW.setSpot q g cap _ x1 i _ t' k1 j u hj hc ⟨by rw [e1, e2]; exact s1.ch, by rw [e2]; exact s1.chl, by rw [e1]; exact s1.chr, by rw [e3, e4]; exact s1.tm, by rw [e4]; exact s1.tml, by rw [e3]; exact s1.tmr⟩
    simp only [List.set_set, List.length_set] at A
    exact A
  have start : RefRep w2 b ρ { S2 with rows := S2.rows.set q (.slice (some ⟨g, 0, none⟩) l.length cap, l.set i s) } := by
    have e : ({ S2 with rows := S2.rows.set q (.slice (some ⟨g, 0, none⟩) l.length cap, l.set i s) } : RS) = S2 := by
      have e1 : l.set i s = l := by
        obtain ⟨h, rfl⟩ := List.getElem?_eq_some_iff.1 hk
        exact List.set_getElem_self h
      have e2 : S2.rows.set q (.slice (some ⟨g, 0, none⟩) l.length cap, l) = S2.rows := by
        obtain ⟨h, he⟩ := List.getElem?_eq_some_iff.1 hx
        rw [← he]; exact List.set_getElem_self h
      rw [e1, e2]
    rw [e]; exact hR2
  have A1 := step w2 s { s with there := false } 0 (.bool false) start (by omega) rfl rfl rfl rfl rfl
  have A2 := step _ _ { s with there := false, text := ⟨#[]⟩ } 1 (.string ⟨#[]⟩) A1 (by omega) rfl rfl rfl rfl rfl
  have A3 := step _ _ { s with there := false, text := ⟨#[]⟩, by_ := 0 } 2 (.int .i64 0) A2 (by omega) rfl rfl rfl rfl rfl
  have A4 := step _ _ { s with there := false, text := ⟨#[]⟩, by_ := 0, num := 0 } 3 (.int .i64 0) A3 (by omega) rfl rfl rfl rfl rfl
  have hfree : (ρ gc).1 = 0 := hR2.free hg1
  have A5 := (RefRep.below A4 hb).upd (6, 0) hfree hg2
  have x3 : ({ S2 with rows := S2.rows.set q (.slice (some ⟨g, 0, none⟩) l.length cap, l.set i { s with there := false, text := ⟨#[]⟩, by_ := 0, num := 0 }) } : RS).rows[q]? = some (.slice (some ⟨g, 0, none⟩) (l.set i { s with there := false, text := ⟨#[]⟩, by_ := 0, num := 0 }).length cap, l.set i { s with there := false, text := ⟨#[]⟩, by_ := 0, num := 0 }) := by
    rw [List.length_set]; exact row_set hql _
  have k3 : (l.set i { s with there := false, text := ⟨#[]⟩, by_ := 0, num := 0 })[i]? = some { s with there := false, text := ⟨#[]⟩, by_ := 0, num := 0 } := by simp [hi]
  have s3 := A5.sp q _ x3 _ (List.mem_of_getElem? k3)
  have A6 := A5.setSpot q g cap _ x3 i _ { s with there := false, text := ⟨#[]⟩, by_ := 0, num := 0, chv := .slice (some ⟨gc, 0, none⟩) S2.n cc, ch := ch } k3 4 (.slice (some ⟨gc, 0, none⟩) S2.n cc) (by omega) rfl
    ⟨by unfold intRow; rw [hchl]; exact ownsRow_base hch (fun _ _ => Nat.zero_le _), hchl, by intro k hk; simp [Value.ownBlock] at hk; subst hk; simp [upd], s3.tm, s3.tml, s3.tmr⟩
  simp only [List.set_set, List.length_set] at A6
  refine ⟨A6, ?_, (Grow.refl _ _).upd hg1 _⟩
  have hin : ∀ o : Nat, (fun k => (ρ k).1 ≠ 0) (⟨g, o, none⟩ : Addr).block := fun o => by simp only; rw [hρ]; simp
  have f1 : Fr (fun k => (ρ k).1 ≠ 0) w2 (cleared w2 g (i * 6)) :=
    ((((Fr.refl _ _).setCell (.inl (hin _)) _).setCell (.inl (hin _)) _).setCell (.inl (hin _)) _).setCell (.inl (hin _)) _
  exact (f1.trans' (Fr.of_below (S := fun k => (ρ k).1 ≠ 0) hb) (fun _ _ h => h)).setCell (.inl (hin _)) _

end Go.Proofs.YtaelaldmibgibaaGreatDoor

namespace Go.Proofs.YtaelaldmibgibaaGreatDoor
open Go.RowKit
attribute [local go_sem ↓] Go.wp_at_zero Go.wp_at_succ

theorem write_del {w w1 w2 wf : World} {b : Nat} {ρ ρ1 ρ2 : Nat → Nat × Nat} {S S1 : RS} {A A' : Abs} (T : After w b ρ S A w1 ρ1 S1) (q : Nat) (hq : q < S1.n) (g cap : Nat) (l : List SP) (hx : S1.rows[q]? = some (.slice (some ⟨g, 0, none⟩) l.length cap, l)) (i : Nat) (s : SP) (hk : l[i]? = some s)
    (p : ByteArray) (hp : S1.paths[i]? = some p) (x : Int) (hx0 : 0 ≤ x) (cw : Value) (cl : List Int) (hc : S1.coms[q]? = some (cw, cl)) (hF2 : Fr (fun k => (ρ1 k).1 ≠ 0) w1 w2) (sf : SP) (htm : sf.tm = s.tm.set q x) (hth : sf.there = false) (hA' : A' = A.set q (del p (A.F q)) x)
    (hR : RefRep wf b ρ2 { S1 with coms := S1.coms.set q (cw, cl.set q x), rows := S1.rows.set q (.slice (some ⟨g, 0, none⟩) l.length cap, (l.map (tmSet q x)).set i sf) }) (hF : Fr (fun k => (ρ1 k).1 ≠ 0) w2 wf) (hG : Grow w2 ρ1 ρ2) :
    ∃ ρ' S', After w b ρ S A' wf ρ' S' := by
  have := write_fin T q hq g cap l hx i s hk p hp x hx0 cw cl hc hF2 sf htm hR hF hG
  rw [if_neg (by rw [hth]; simp), ← hA'] at this
  exact ⟨_, _, this⟩

theorem removeE_ok {A : Abs} {q : Nat} {p : ByteArray} (ho : A.out (q : Int) = false) (hp : pathOk p = true) :
    A.removeE q p = if get p (A.F q) = none then 4 else if 1000000000 ≤ A.c q then 5 else 0 := by
  unfold Abs.removeE
  rw [if_neg (by rw [ho]; simp), if_neg (by rw [hp]; simp), Int.toNat_natCast]

set_option maxRecDepth 100000 in
set_option maxHeartbeats 1000000 in
theorem refRemove_any (b : Nat) (r : Int) (p : ByteArray) (ρ : Nat → Nat × Nat) (S : RS) (A : Abs) (w : World) (h : RefRep w b ρ S) (hI : RInv S A) (hm : S.paths.length ≤ 100000000) (hs : p.size ≤ maxLen) :
    Calls Tryz.prog 84 #[.pointer (some ⟨b, 0, none⟩), .int .i64 r, .string p] w fun e w' => ∃ ρ' S', e = .returned (.int .i64 (A.removeE r p)) ∧ After w b ρ S (A.remove r p) w' ρ' S' := by
  cases ho : A.out r with
  | true =>
    have e1 : A.removeE r p = 1 := by unfold Abs.removeE; rw [if_pos ho]
    have e2 : A.remove r p = A := by unfold Abs.remove; rw [e1]; rfl
    rw [e1, e2]
    have H := hide (After.refl h hI)
    have C := hide (asked_bad b r p ρ S A w h hI hs ho)
    clear h hI e1 e2
    go_enter Tryz.func84, Tryz.ntmps84
    go_wp2_with (go_at_call 150; refine C.out.mono ?_; rintro e w' ⟨rfl, rfl⟩)
    go_ret
    exact ⟨ρ, S, rfl, H.out⟩
  | false =>
    cases hp : pathOk p with
    | false =>
      have e1 : A.removeE r p = 2 := by unfold Abs.removeE; rw [if_neg (by rw [ho]; simp), if_pos hp]
      have e2 : A.remove r p = A := by unfold Abs.remove; rw [e1]; rfl
      rw [e1, e2]
      have H := hide (After.refl h hI)
      have C := hide (asked_path b r p ρ S A w h hI hs ho hp)
      clear h hI e1 e2
      go_enter Tryz.func84, Tryz.ntmps84
      go_wp2_with (go_at_call 150; refine C.out.mono ?_; rintro e w' ⟨rfl, rfl⟩)
      go_ret
      exact ⟨ρ, S, rfl, H.out⟩
    | true =>
      have C := hide (asked_ok b r p ρ S A w h hI hs ho hp)
      have D := hide (place_any b p ρ S A w h hI hm)
      have HPO := hide hp
      obtain ⟨q, rfl, hq⟩ := out_nat ho
      have e1 := hide (removeE_ok ho hp)
      have hqn : q < S.n := by rw [← hI.n]; exact hq
      clear h hI ho hp hq
      go_enter Tryz.func84, Tryz.ntmps84
      go_wp2_with fail
      refine C.out.mono ?_
      rintro e w ⟨rfl, rfl⟩
      go_wp2_with fail
      refine D.out.mono ?_
      rintro e w1 ⟨ρ', S', i, rfl, hR, hI', hG, hF, hpi, hn', hl', hsub⟩
      obtain ⟨sg, sc, g, cap, l, s, es, h3, hsr, hx, hks, hll, hA, hP, hg, hc, _⟩ := spot_at hR hI' q (by omega) i p hpi
      have hget := hP.get
      rw [← hA, rowM_head] at hget
      have c0 : w1.cell? ⟨g, i * 6, none⟩ = some (.bool s.there) := by simpa [SP.cells] using hc 0 (by omega)
      have hil : i < l.length := (List.getElem?_eq_some_iff.1 hks).1
      have hn6 := hR.n6
      have T := hide (⟨hR, hI', hG, hF, hn', hl', fun q hq => (hsub q hq).imp id (fun e => by rw [e]; exact HPO.out)⟩ : After w b ρ S A w1 ρ' S')
      have hqn' : q < S'.n := by omega
      have hcnt := hI'.cnt q hqn'
      have HX := hide hx
      have HKS := hide hks
      have HPI := hide hpi
      have HGET := hide hget
      have SP1 := hide (spent_any b q ρ' S' w1 hR hqn')
      have AC1 := hide (acts_any b q ρ' S' w1 hR hqn' (by rw [← hcnt.1]; exact hcnt.2))
      rw [← hcnt.1] at SP1 AC1
      have HC0 := hide hcnt.2
      clear hks hx es hA hP hc hpi hG hF hl' hll hI' hR hn' hget hcnt
      cases ht : s.there with
      | false =>
        rw [ht] at c0 HGET
        rw [if_neg (by simp)] at HGET
        have E1 : Hid (A.removeE q p = 4) := by unfold Hid; rw [e1.out, if_pos HGET.out]
        have E2 : Hid (A.remove q p = A) := by unfold Hid Abs.remove; rw [E1.out]; rfl
        clear e1 HGET ht
        generalize S'.n = n at *
        go_wp2
        go_ret
        exact ⟨ρ', S', ret_int (E1.out.symm), by rw [E2.out]; exact T.out⟩
      | true =>
        rw [ht] at c0 HGET
        rw [if_pos rfl] at HGET
        by_cases hsp : 1000000000 ≤ A.c q
        · have E1 : Hid (A.removeE q p = 5) := by unfold Hid; rw [e1.out, if_neg (by rw [HGET.out]; simp), if_pos hsp]
          have E2 : Hid (A.remove q p = A) := by unfold Hid Abs.remove; rw [E1.out]; rfl
          have hd : decide (1000000000 ≤ A.c q) = true := by simp [hsp]
          rw [hd] at SP1
          clear hd e1 HGET ht
          generalize S'.n = n at *
          go_wp2_with (go_at_call 151; refine SP1.out.mono ?_; rintro e w' ⟨rfl, rfl⟩)
          go_ret
          exact ⟨ρ', S', ret_int (E1.out.symm), by rw [E2.out]; exact T.out⟩
        · have hd : decide (1000000000 ≤ A.c q) = false := by simp; omega
          rw [hd] at SP1
          have E1 : Hid (A.removeE q p = 0) := by unfold Hid; rw [e1.out, if_neg (by rw [HGET.out]; simp), if_neg hsp]
          have E2 : Hid (A.remove q p = A.set q (del p (A.F q)) (A.c q + 1)) := by unfold Hid Abs.remove; rw [E1.out, Int.toNat_natCast]; rfl
          clear hd e1 HGET ht
          have hsp' : A.c q < 1000000000 := by omega
          go_wp2_with fail
          refine SP1.out.mono ?_
          rintro e w1 ⟨rfl, rfl⟩
          go_wp2_with fail
          refine (AC1.out hsp').mono ?_
          rintro e w2 ⟨cw, cl, v, l0, hxc, hxr, rfl, hR2, hF2, hz2⟩
          rw [HX.out] at hxr
          simp at hxr
          obtain ⟨rfl, rfl⟩ := hxr
          have hql : q < S'.rows.length := (List.getElem?_eq_some_iff.1 HX.out).1
          obtain ⟨hx2, hk2⟩ := acted_row (x := A.c q + 1) (cw := cw) (cl := cl) hql HKS.out
          obtain ⟨sg2, sc2, gc0, cc0, gt0, ct0, b3, bs, six⟩ := hR2.access q hqn' g cap _ hx2 i _ hk2
          have hρg : ρ' g = (5, q) := (hR2.row q _ hx2).2 g rfl
          have hn1 : 1 ≤ S'.n := hR2.n1
          have hgl : g < w2.heap.size := hR2.lt g (by rw [hρg]; simp)
          have b0 := hR2.c0
          obtain ⟨hbg, hbl, hsgg, hsgl⟩ := hR2.road q g hρg sg2 sc2 b3
          have GN := hide (fun (W : World) (e0 : W.heap = w2.heap) => gone_any g (i * 6) S'.n W _ _ _ _ _ hn1 hn6 (by rw [e0]; exact hgl) ((World.cell?_of_block (w := w2) (by rw [e0])).trans six.c0) ((World.cell?_of_block (w := w2) (by rw [e0])).trans six.c1) ((World.cell?_of_block (w := w2) (by rw [e0])).trans six.c2) ((World.cell?_of_block (w := w2) (by rw [e0])).trans six.c3) ((World.cell?_of_block (w := w2) (by rw [e0])).trans six.c4) (fun k => (World.frozen?_of_block (w := w2) (by rw [e0])).trans (six.fz k)))
          have GT := hide (fun w4 hb gc cc hg1 ch base hch hchl => gone_tail (w4 := w4) hR2 q hqn' g cap _ hx2 i _ hk2 hb gc cc hg1 ch base hch hchl)
          have F2 := hide hF2
          have XC := hide hxc
          have HH := hide (fun (W : World) (e0 : W.heap = w2.heap) => hR2.keep (w' := W) (by rw [e0]; omega) (fun k _ => by rw [e0]))
          clear hR2 hF2 hxc hx2 hk2 six hz2
          rw [List.length_map] at bs
          have KA := hide (fun (W wB : World) (u : Value) (e0 : W.heap = w2.heap) (hb : Below (cleared W g (i * 6)).heap.size (cleared W g (i * 6)) wB) => (⟨(gone_far hb hbg (by rw [e0]; exact hbl)).trans ((World.cell?_of_block (w := w2) (by rw [e0])).trans b3), (gone_far hb hsgg (by rw [e0]; exact hsgl)).trans ((World.cell?_of_block (w := w2) (by rw [e0])).trans bs), (gone_far hb hbg (by rw [e0]; exact hbl)).trans ((World.cell?_of_block (w := w2) (by rw [e0])).trans b0)⟩ :
            (wB.setCell ⟨g, i * 6 + 4, none⟩ u).cell? ⟨b, 3, none⟩ = some (.slice (some ⟨sg2, 0, none⟩) S'.n sc2) ∧ (wB.setCell ⟨g, i * 6 + 4, none⟩ u).cell? ⟨sg2, q, none⟩ = some (.slice (some ⟨g, 0, none⟩) l.length cap) ∧ (wB.setCell ⟨g, i * 6 + 4, none⟩ u).cell? ⟨b, 0, none⟩ = some (.int .i64 S'.n)))
          clear hsp
          go_wp2_with fail
          go_region_held3 (fun W => W.cell? ⟨b, 3, none⟩ = some (.slice (some ⟨sg2, 0, none⟩) S'.n sc2) ∧ W.cell? ⟨sg2, q, none⟩ = some (.slice (some ⟨g, 0, none⟩) l.length cap) ∧ W.cell? ⟨b, 0, none⟩ = some (.int .i64 S'.n))
            (first | exact KA.out w2.drew _ _ rfl hbz | exact ⟨b3, bs, b0⟩ | go_keep)
            (first | (go_at_call 154; refine (GN.out w2.drew rfl).mono ?_; rintro e w' ⟨rfl, gz, cz, wB, hbz, hoz, hgz, rfl⟩))
          go_wp2
          go_ret
          obtain ⟨RT, FT, GTT⟩ := GT.out wB ⟨hbz.os, hbz.tape, hbz.output, hbz.size, hbz.block⟩ gz cz hgz (List.replicate S'.n 0) _ hoz (by simp)
          simp only [List.set_set, List.length_map] at RT
          obtain ⟨ρf, Sf, fin⟩ := write_del T.out q hqn' g cap l HX.out i s HKS.out p HPI.out (A.c q + 1) (by have := HC0.out; omega) cw cl XC.out F2.out { tmSet q (A.c q + 1) s with there := false, text := ⟨#[]⟩, by_ := 0, num := 0, chv := .slice (some ⟨gz, 0, none⟩) S'.n cz, ch := List.replicate S'.n 0 } rfl rfl E2.out RT FT GTT
          exact ⟨ρf, Sf, ret_int E1.out.symm, fin⟩

end Go.Proofs.YtaelaldmibgibaaGreatDoor

namespace Go.Proofs.YtaelaldmibgibaaGreatDoor
open Go.RowKit

def Abs.listL (A : Abs) (r : Int) : List ByteArray := if A.out r = true then [] else (A.F r.toNat).map (·.1)
def Abs.listE (A : Abs) (r : Int) : Int := if A.out r = true then 1 else 0

def keysOf (ps : List ByteArray) (l : List SP) : List ByteArray := (rowF ps l).map (·.1)
theorem keysOf_snoc (ps : List ByteArray) (l : List SP) (k : Nat) (p : ByteArray) (s : SP) (hp : ps[k]? = some p) (hs : l[k]? = some s) :
    keysOf (ps.take (k + 1)) (l.take (k + 1)) = keysOf (ps.take k) (l.take k) ++ if s.there = true then [p] else [] := by
  obtain ⟨h1, rfl⟩ := List.getElem?_eq_some_iff.1 hp
  obtain ⟨h2, rfl⟩ := List.getElem?_eq_some_iff.1 hs
  unfold keysOf
  rw [List.take_succ_eq_append_getElem h1, List.take_succ_eq_append_getElem h2, rowF_split _ _ _ _ _ _ (by rw [List.length_take, List.length_take]; omega), List.map_append, List.map_append]
  have e : rowF [] [] = [] := rfl
  rw [e, List.map_nil, List.append_nil]
  unfold rowM
  split <;> rfl
theorem keysOf_le (ps : List ByteArray) (l : List SP) : (keysOf ps l).length ≤ ps.length := by
  unfold keysOf rowF
  rw [List.length_map, List.length_map]
  refine Nat.le_trans (List.length_filter_le _ _) ?_
  rw [List.length_zip]; omega

theorem ret_vi {v : Value} {x y : Int} (h : x = y) : Ending.returned (.tuple #[v, .int .i64 x]) = .returned (.tuple #[v, .int .i64 y]) := by rw [h]

set_option maxHeartbeats 600000 in
theorem refList_any (b : Nat) (r : Int) (ρ : Nat → Nat × Nat) (S : RS) (A : Abs) (w : World) (h : RefRep w b ρ S) (hI : RInv S A) (hm : S.paths.length ≤ 100000000) :
    Calls Tryz.prog 96 #[.pointer (some ⟨b, 0, none⟩), .int .i64 r] w fun e w' => ∃ v, e = .returned (.tuple #[v, .int .i64 (A.listE r)]) ∧ w'.ownsRow w.heap.size 9 1 v (A.listL r).length (svs (A.listL r)) ∧ Below w.heap.size w w' := by
  have b0 := h.c0
  cases ho : A.out r with
  | true =>
    have e1 : A.listE r = 1 := by unfold Abs.listE; rw [if_pos ho]
    have e2 : A.listL r = [] := by unfold Abs.listL; rw [if_pos ho]
    rw [e1, e2]
    unfold Abs.out at ho
    rw [hI.n] at ho
    simp at ho
    clear h hI e1 e2
    generalize S.n = n at *
    by_cases h1 : r < 0
    · have d1 : decide (r < 0) = true := by simp [h1]
      go_enter Tryz.func96, Tryz.ntmps96
      go_wp2
      go_ret2
      exact ⟨_, rfl, World.ownsRow_nil _ _ _ _, Below.refl _ _⟩
    · have d1 : decide (r < 0) = false := by simp; omega
      have h2 : (n : Int) ≤ r := by omega
      clear ho
      go_enter Tryz.func96, Tryz.ntmps96
      go_wp2
      go_ret2
      exact ⟨_, rfl, World.ownsRow_nil _ _ _ _, Below.refl _ _⟩
  | false =>
    have e1 : A.listE r = 0 := by unfold Abs.listE; rw [if_neg (by rw [ho]; simp)]
    have e2 : A.listL r = (A.F r.toNat).map (·.1) := by unfold Abs.listL; rw [if_neg (by rw [ho]; simp)]
    rw [e1, e2]
    obtain ⟨q, rfl, hq⟩ := out_nat ho
    rw [Int.toNat_natCast]
    have hqn : q < S.n := by rw [← hI.n]; exact hq
    have hn6 := h.n6
    obtain ⟨hml, a, cap, ep, hcp⟩ := strRow_form h.p
    have b1 := h.c1
    rw [ep] at b1
    obtain ⟨sg, sc, v, l, es, hs, hx, hrow, hro, hsg, _, _⟩ := h.theRow q hqn
    have b3 := h.c3
    rw [es] at b3
    have hll := hI.len q _ hx
    simp only at hll
    have HFL := hide (hI.files q v l hx)
    have hvf : ∃ av cv, v = .slice av S.paths.length cv := by
      rcases hrow.2 with ⟨e0, h00⟩ | ⟨g0, c0, cur, e0, _⟩
      · exact ⟨none, 0, by rw [e0, ← hll, h00]⟩
      · exact ⟨_, c0, by rw [e0, hll]⟩
    obtain ⟨av, cvv, rfl⟩ := hvf
    have SIX := hide (fun k s (hk : l[k]? = some s) => h.six q _ l hx k s hk)
    have HC := hide hcp
    have hbl : b < w.heap.size := h.lt b (by rw [h.rb]; decide)
    have HLL := hide hll
    unfold maxLen at hml
    clear h hI ho hq e1 e2 ep es hx hrow hro hcp hll
    have d1 : decide ((q : Int) < 0) = false := by simp
    generalize hN : S.n = n at *
    clear hN
    have d2 : decide (n ≤ q) = false := by simp; omega
    go_enter Tryz.func96, Tryz.ntmps96
    go_wp2
    clear d1 d2
    go_loopw [6, 7] (fun v i wr => ∃ k : Nat, k ≤ S.paths.length ∧ i = .int .i64 k ∧ wr.ownsRow w.heap.size 9 1 v (keysOf (S.paths.take k) (l.take k)).length (svs (keysOf (S.paths.take k) (l.take k))) ∧ Hid (Below w.heap.size w wr)) (fun _ i _ => S.paths.length - (intOf i).toNat)
    case atStart => exact ⟨0, Nat.zero_le _, rfl, World.ownsRow_nil _ _ _ _, Below.refl _ _⟩
    case round =>
      obtain ⟨k, hk, rfl, hown, hbw⟩ := hrel
      have b1w : wr.cell? ⟨b, 1, none⟩ = some (.slice a S.paths.length cap) := (hbw.out.cell (p := ⟨b, 1, none⟩) hbl).trans b1
      by_cases hlt : k < S.paths.length
      · obtain ⟨p, hp⟩ : ∃ p, S.paths[k]? = some p := ⟨S.paths[k], List.getElem?_eq_getElem hlt⟩
        have hkl : k < l.length := by rw [HLL.out]; exact hlt
        obtain ⟨s, hks⟩ : ∃ s, l[k]? = some s := ⟨l[k], List.getElem?_eq_getElem hkl⟩
        obtain ⟨g, rfl, hg, hcp⟩ := HC.out k p hp
        obtain ⟨g5, c5, _, _, _, _, ev, hg5, _, _, q0, _⟩ := SIX.out k s hks
        simp at ev
        obtain ⟨rfl, hmm, rfl⟩ := ev
        clear hmm
        have b3w : wr.cell? ⟨b, 3, none⟩ = some (.slice (some ⟨sg, 0, none⟩) n sc) := (hbw.out.cell (p := ⟨b, 3, none⟩) hbl).trans b3
        have bsw : wr.cell? ⟨sg, q, none⟩ = some (.slice (some ⟨g5, 0, none⟩) S.paths.length cvv) := (hbw.out.cell (p := ⟨sg, q, none⟩) hsg).trans hs
        have q0w : wr.cell? ⟨g5, k * 6, none⟩ = some (.bool s.there) := (hbw.out.cell (p := ⟨g5, k * 6, none⟩) hg5).trans q0
        have cpw : wr.cell? ⟨g, k, none⟩ = some (.string p) := (hbw.out.cell (p := ⟨g, k, none⟩) hg).trans hcp
        have hle := keysOf_le (S.paths.take k) (l.take k)
        have hle2 : (S.paths.take k).length ≤ k := List.length_take_le _ _
        have hbz := hbw.out.size
        have hlo := hide (World.ownsRow.lt hown)
        have E := hide (keysOf_snoc S.paths l k p s hp hks)
        clear b1 b3 hs q0 hcp hp hks
        generalize hL : (S.paths.take k).length = L at *
        clear hL
        cases ht : s.there with
        | true =>
          rw [ht] at q0w E
          rw [if_pos rfl] at E
          clear ht
          go_wp2_with (at_builtin; refine app_str _ rfl (.tmp 38) (.tmp 46) rfl w.heap.size _ _ _ rfl (hown.alloc _) wr.heap.size p rfl (by simp) (by omega) (by simp; omega) ?_; intro g2 c2 w2 ho2 hgr2 hat2 hl2)
          have hb2 := hide (grown_below (hbw.out.alloc hbw.out.size _) hgr2 (fun q hq => (hlo.out q hq).1))
          have O : Hid (w2.ownsRow w.heap.size 9 1 (.slice (some ⟨g2, 0, none⟩) ((keysOf (S.paths.take k) (l.take k)).length + 1) c2) (keysOf (S.paths.take (k + 1)) (l.take (k + 1))).length (svs (keysOf (S.paths.take (k + 1)) (l.take (k + 1))))) := by
            unfold Hid; rw [E.out, svs_append, List.length_append]; exact ho2
          clear hgr2 hat2 ho2 hown b1w b3w bsw q0w cpw
          go_wp2
          go_roundw
          case rel => exact ⟨k + 1, by omega, by go_num, O.out, hb2⟩
          case measure => simp [intOf]; omega
        | false =>
          rw [ht] at q0w E
          rw [if_neg (by simp), List.append_nil] at E
          clear ht
          have O := hide hown
          rw [← E.out] at O
          clear hown
          go_wp2
          go_roundw
          case rel => exact ⟨k + 1, by omega, by go_num, O.out, hbw⟩
          case measure => simp [intOf]; omega
      · have ek : k = S.paths.length := by omega
        have E : Hid (keysOf (S.paths.take k) (l.take k) = (A.F q).map (·.1)) := by
          unfold Hid
          rw [HFL.out, List.take_of_length_le (by omega), List.take_of_length_le (by rw [HLL.out]; omega)]
          rfl
        rw [E.out] at hown
        clear ek
        go_wp2
        go_ret2
        exact ⟨_, rfl, hown, hbw.out⟩

end Go.Proofs.YtaelaldmibgibaaGreatDoor
