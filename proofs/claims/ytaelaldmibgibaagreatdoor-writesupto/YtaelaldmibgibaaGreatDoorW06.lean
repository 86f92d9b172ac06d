/- The document's answer: Write. The document's answer: gone, Remove. -/
import Derived.Test.YtaelaldmibgibaaGreatDoorW05

namespace Go.Proofs.YtaelaldmibgibaaGreatDoor
open Go.RowKit

theorem After.chain {w w1 w2 : World} {b : Nat} {ρ ρ1 ρ2 : Nat → Nat × Nat} {S S1 S2 : RS} {A A2 : Abs} (h : After w b ρ S A w1 ρ1 S1) (hR : RefRep w2 b ρ2 S2) (hI : RInv S2 A2) (hf : Fr (fun k => (ρ1 k).1 ≠ 0) w1 w2) (hg : Grow w1 ρ1 ρ2) (hn : S2.n = S1.n) (hl : S2.paths = S1.paths) :
    After w b ρ S A2 w2 ρ2 S2 :=
  ⟨hR, hI, h.grow.trans h.fr.size hg, h.fr.trans' hf (fun i hi hk => by rcases h.grow i hk with q | q; exact q; omega), hn.trans h.n, by rw [hl]; exact h.len, by rw [hl]; exact h.sub⟩

/-- the cells of a spot, and that they may be written -/
structure Six (w : World) (g i n : Nat) (s : SP) (gc cc gt ct : Nat) : Prop where
  c0 : w.cell? ⟨g, i * 6, none⟩ = some (.bool s.there)
  c1 : w.cell? ⟨g, i * 6 + 1, none⟩ = some (.string s.text)
  c2 : w.cell? ⟨g, i * 6 + 2, none⟩ = some (.int .i64 s.by_)
  c3 : w.cell? ⟨g, i * 6 + 3, none⟩ = some (.int .i64 s.num)
  c4 : w.cell? ⟨g, i * 6 + 4, none⟩ = some (.slice (some ⟨gc, 0, none⟩) n cc)
  c5 : w.cell? ⟨g, i * 6 + 5, none⟩ = some (.slice (some ⟨gt, 0, none⟩) n ct)
  fz : ∀ k, w.frozen? ⟨g, k, none⟩ = false
  ch : s.chv = .slice (some ⟨gc, 0, none⟩) n cc
  tm : s.tmv = .slice (some ⟨gt, 0, none⟩) n ct
theorem RefRep.sixth {w : World} {b : Nat} {ρ : Nat → Nat × Nat} {S : RS} (h : RefRep w b ρ S) (r g cap : Nat) (l : List SP) (hx : S.rows[r]? = some (.slice (some ⟨g, 0, none⟩) l.length cap, l)) (k : Nat) (s : SP) (hk : l[k]? = some s) :
    ∃ gc cc gt ct, Six w g k S.n s gc cc gt ct := by
  obtain ⟨g', cap', gc, cc, gt, ct, ev, _, ec, et, q0, q1, q2, q3, q4, q5⟩ := h.six r _ l hx k s hk
  simp at ev
  obtain ⟨rfl, rfl⟩ := ev
  obtain ⟨_, _, e, _, _, _, hf⟩ := spot_cells (h.row r _ hx).1 k s hk
  simp at e
  obtain ⟨rfl, rfl⟩ := e
  exact ⟨gc, cc, gt, ct, q0, q1, q2, q3, q4, q5, hf, ec, et⟩

theorem RefRep.access {w : World} {b : Nat} {ρ : Nat → Nat × Nat} {S : RS} (h : RefRep w b ρ S) (q : Nat) (hq : q < S.n) (g cap : Nat) (l : List SP) (hx : S.rows[q]? = some (.slice (some ⟨g, 0, none⟩) l.length cap, l)) (k : Nat) (s : SP) (hk : l[k]? = some s) :
    ∃ sg sc gc cc gt ct, w.cell? ⟨b, 3, none⟩ = some (.slice (some ⟨sg, 0, none⟩) S.n sc) ∧ w.cell? ⟨sg, q, none⟩ = some (.slice (some ⟨g, 0, none⟩) l.length cap) ∧ Six w g k S.n s gc cc gt ct := by
  obtain ⟨sg, sc, v, l', es, hs, hx', _⟩ := h.theRow q hq
  rw [hx] at hx'
  simp at hx'
  obtain ⟨rfl, rfl⟩ := hx'
  obtain ⟨gc, cc, gt, ct, six⟩ := h.sixth q g cap l hx k s hk
  exact ⟨sg, sc, gc, cc, gt, ct, by rw [h.c3, es], hs, six⟩

theorem row_set {S : RS} {q : Nat} (hq : q < S.rows.length) (y : Value × List SP) : ({ S with rows := S.rows.set q y } : RS).rows[q]? = some y := by simp [hq]

/-- behind acts: the row of the replica, and its spot -/
theorem acted_row {S : RS} {q i g cap : Nat} {l : List SP} {s : SP} {x : Int} {cw : Value} {cl : List Int} (hq : q < S.rows.length) (hk : l[i]? = some s) :
    ({ S with coms := S.coms.set q (cw, cl.set q x), rows := S.rows.set q (.slice (some ⟨g, 0, none⟩) l.length cap, l.map (fun s => { s with tm := s.tm.set q x })) } : RS).rows[q]? = some (.slice (some ⟨g, 0, none⟩) (l.map (tmSet q x)).length cap, l.map (tmSet q x)) ∧
      (l.map (tmSet q x))[i]? = some (tmSet q x s) := by
  refine ⟨?_, ?_⟩
  · simp only [List.getElem?_set, hq, if_true, List.length_map]; rfl
  · rw [List.getElem?_map, hk]; rfl

/-- the last steps of Write: the text, a new list of changes, the event in it -/
theorem write_tail {w2 w4 : World} {b : Nat} {ρ : Nat → Nat × Nat} {S2 : RS} (hR2 : RefRep w2 b ρ S2) (q : Nat) (hq : q < S2.n) (g cap : Nat) (l : List SP) (hx : S2.rows[q]? = some (.slice (some ⟨g, 0, none⟩) l.length cap, l)) (i : Nat) (s : SP) (hk : l[i]? = some s) (t : ByteArray)
    (hb : Below (w2.setCell ⟨g, i * 6 + 1, none⟩ (.string t)).heap.size (w2.setCell ⟨g, i * 6 + 1, none⟩ (.string t)) w4) (gc cc : Nat) (ch : List Int) (hch : w4.ownsRow (w2.setCell ⟨g, i * 6 + 1, none⟩ (.string t)).heap.size 3 1 (.slice (some ⟨gc, 0, none⟩) ch.length cc) ch.length (ivs ch)) (hchl : ch.length = S2.n) (x : Int) :
    RefRep ((w4.setCell ⟨g, i * 6 + 4, none⟩ (.slice (some ⟨gc, 0, none⟩) S2.n cc)).setCell ⟨gc, q, none⟩ (.int .i64 x)) b (upd ρ gc (6, 0))
      { S2 with rows := S2.rows.set q (.slice (some ⟨g, 0, none⟩) l.length cap, l.set i { s with text := t, chv := .slice (some ⟨gc, 0, none⟩) S2.n cc, ch := ch.set q x }) } ∧
    Fr (fun k => (ρ k).1 ≠ 0) w2 ((w4.setCell ⟨g, i * 6 + 4, none⟩ (.slice (some ⟨gc, 0, none⟩) S2.n cc)).setCell ⟨gc, q, none⟩ (.int .i64 x)) ∧ Grow w2 ρ (upd ρ gc (6, 0)) := by
  have hql : q < S2.rows.length := by rw [hR2.rowl]; exact hq
  have hρ : ρ g = (5, q) := (hR2.row q _ hx).2 g rfl
  have hi : i < l.length := (List.getElem?_eq_some_iff.1 hk).1
  obtain ⟨hg1, hg2⟩ := World.ownsRow.lt hch gc rfl
  have hz : (w2.setCell ⟨g, i * 6 + 1, none⟩ (.string t)).heap.size = w2.heap.size := size_setCell _ _ _
  have hsp := hR2.sp q _ hx s (List.mem_of_getElem? hk)
  have R3 := hR2.setSpot q g cap l hx i s { s with text := t } hk 1 (.string t) (by omega) rfl ⟨hsp.ch, hsp.chl, hsp.chr, hsp.tm, hsp.tml, hsp.tmr⟩
  have R4 := R3.below hb
  have hx3 := row_set (S := S2) hql (.slice (some ⟨g, 0, none⟩) l.length cap, l.set i { s with text := t })
  have hx3' : ({ S2 with rows := S2.rows.set q (.slice (some ⟨g, 0, none⟩) l.length cap, l.set i { s with text := t }) } : RS).rows[q]? = some (.slice (some ⟨g, 0, none⟩) (l.set i { s with text := t }).length cap, l.set i { s with text := t }) := by
    rw [hx3, List.length_set]
  have hfree : (ρ gc).1 = 0 := hR2.free (by omega)
  have R5 := R4.newCh q hq g cap _ hx3' i { s with text := t } (by simp [hi]) gc cc ch (by unfold intRow; rw [← hchl]; exact ownsRow_base hch (fun _ _ => Nat.zero_le _)) hchl hfree hg2 x
  refine ⟨?_, ?_, (Grow.refl _ _).upd (by omega) _⟩
  · have e : ({ ({ S2 with rows := S2.rows.set q (.slice (some ⟨g, 0, none⟩) l.length cap, l.set i { s with text := t }) } : RS) with rows := ({ S2 with rows := S2.rows.set q (.slice (some ⟨g, 0, none⟩) l.length cap, l.set i { s with text := t }) } : RS).rows.set q (.slice (some ⟨g, 0, none⟩) (l.set i { s with text := t }).length cap, (l.set i { s with text := t }).set i { ({ s with text := t } : SP) with chv := .slice (some ⟨gc, 0, none⟩) S2.n cc, ch := ch.set q x }) } : RS) =
        { S2 with rows := S2.rows.set q (.slice (some ⟨g, 0, none⟩) l.length cap, l.set i { s with text := t, chv := .slice (some ⟨gc, 0, none⟩) S2.n cc, ch := ch.set q x }) } := by
      simp only [List.set_set, List.length_set]
    rw [← e]
    exact R5
  · have f1 : Fr (fun k => (ρ k).1 ≠ 0) w2 (w2.setCell ⟨g, i * 6 + 1, none⟩ (.string t)) := (Fr.refl _ _).setCell (.inl (by simp only; rw [hρ]; simp)) _
    have f2 := f1.trans' (Fr.of_below (S := fun k => (ρ k).1 ≠ 0) hb) (fun _ _ h => h)
    exact (f2.setCell (.inl (by simp only; rw [hρ]; simp)) _).setCell (.inr (by simp only; omega)) _


/-- the first steps of Write where the file was not there -/
theorem write_new {w2 w4 : World} {b : Nat} {ρ : Nat → Nat × Nat} {S2 : RS} (hR2 : RefRep w2 b ρ S2) (q : Nat) (hq : q < S2.n) (g cap : Nat) (l : List SP) (hx : S2.rows[q]? = some (.slice (some ⟨g, 0, none⟩) l.length cap, l)) (i : Nat) (s : SP) (hk : l[i]? = some s) (y x : Int)
    (hb : Below (((w2.setCell ⟨g, i * 6, none⟩ (.bool true)).setCell ⟨g, i * 6 + 2, none⟩ (.int .i64 y)).setCell ⟨g, i * 6 + 3, none⟩ (.int .i64 x)).heap.size (((w2.setCell ⟨g, i * 6, none⟩ (.bool true)).setCell ⟨g, i * 6 + 2, none⟩ (.int .i64 y)).setCell ⟨g, i * 6 + 3, none⟩ (.int .i64 x)) w4)
    (gc cc : Nat) (hg1 : w2.heap.size ≤ gc) (ch : List Int) (base : Nat) (hch : w4.ownsRow base 3 1 (.slice (some ⟨gc, 0, none⟩) S2.n cc) S2.n (ivs ch)) (hchl : ch.length = S2.n) :
    RefRep (w4.setCell ⟨g, i * 6 + 4, none⟩ (.slice (some ⟨gc, 0, none⟩) S2.n cc)) b (upd ρ gc (6, 0))
      { S2 with rows := S2.rows.set q (.slice (some ⟨g, 0, none⟩) l.length cap, l.set i { s with there := true, by_ := y, num := x, chv := .slice (some ⟨gc, 0, none⟩) S2.n cc, ch := ch }) } ∧
    Fr (fun k => (ρ k).1 ≠ 0) w2 (w4.setCell ⟨g, i * 6 + 4, none⟩ (.slice (some ⟨gc, 0, none⟩) S2.n cc)) ∧ Grow w2 ρ (upd ρ gc (6, 0)) := by
  have hql : q < S2.rows.length := by rw [hR2.rowl]; exact hq
  have hρ : ρ g = (5, q) := (hR2.row q _ hx).2 g rfl
  have hi : i < l.length := (List.getElem?_eq_some_iff.1 hk).1
  obtain ⟨_, hg2⟩ := World.ownsRow.lt hch gc rfl
  have hsp := hR2.sp q _ hx s (List.mem_of_getElem? hk)
  have A1 := hR2.setSpot q g cap l hx i s { s with there := true } hk 0 (.bool true) (by omega) rfl ⟨hsp.ch, hsp.chl, hsp.chr, hsp.tm, hsp.tml, hsp.tmr⟩
  have x1 : ({ S2 with rows := S2.rows.set q (.slice (some ⟨g, 0, none⟩) l.length cap, l.set i { s with there := true }) } : RS).rows[q]? = some (.slice (some ⟨g, 0, none⟩) (l.set i { s with there := true }).length cap, l.set i { s with there := true }) := by
    rw [List.length_set]; exact row_set hql _
  have k1 : (l.set i { s with there := true })[i]? = some { s with there := true } := by simp [hi]
  have s1 := A1.sp q _ x1 _ (List.mem_of_getElem? k1)
  have A2 := A1.setSpot q g cap _ x1 i _ { s with there := true, by_ := y } k1 2 (.int .i64 y) (by omega) rfl ⟨s1.ch, s1.chl, s1.chr, s1.tm, s1.tml, s1.tmr⟩
  simp only [List.set_set, List.length_set] at A2
  have x2 : ({ S2 with rows := S2.rows.set q (.slice (some ⟨g, 0, none⟩) l.length cap, l.set i { s with there := true, by_ := y }) } : RS).rows[q]? = some (.slice (some ⟨g, 0, none⟩) (l.set i { s with there := true, by_ := y }).length cap, l.set i { s with there := true, by_ := y }) := by
    rw [List.length_set]; exact row_set hql _
  have k2 : (l.set i { s with there := true, by_ := y })[i]? = some { s with there := true, by_ := y } := by simp [hi]
  have s2 := A2.sp q _ x2 _ (List.mem_of_getElem? k2)
  have A3 := A2.setSpot q g cap _ x2 i _ { s with there := true, by_ := y, num := x } k2 3 (.int .i64 x) (by omega) rfl ⟨s2.ch, s2.chl, s2.chr, s2.tm, s2.tml, s2.tmr⟩
  simp only [List.set_set, List.length_set] at A3
  have hfree : (ρ gc).1 = 0 := hR2.free hg1
  have A4 := (A3.below hb).upd (6, 0) hfree hg2
  have x3 : ({ S2 with rows := S2.rows.set q (.slice (some ⟨g, 0, none⟩) l.length cap, l.set i { s with there := true, by_ := y, num := x }) } : RS).rows[q]? = some (.slice (some ⟨g, 0, none⟩) (l.set i { s with there := true, by_ := y, num := x }).length cap, l.set i { s with there := true, by_ := y, num := x }) := by
    rw [List.length_set]; exact row_set hql _
  have k3 : (l.set i { s with there := true, by_ := y, num := x })[i]? = some { s with there := true, by_ := y, num := x } := by simp [hi]
  have s3 := A4.sp q _ x3 _ (List.mem_of_getElem? k3)
  have A5 := A4.setSpot q g cap _ x3 i _ { s with there := true, by_ := y, num := x, chv := .slice (some ⟨gc, 0, none⟩) S2.n cc, ch := ch } k3 4 (.slice (some ⟨gc, 0, none⟩) S2.n cc) (by omega) rfl
    ⟨by unfold intRow; rw [hchl]; exact ownsRow_base hch (fun _ _ => Nat.zero_le _), hchl, by intro k hk; simp [Value.ownBlock] at hk; subst hk; simp [upd], s3.tm, s3.tml, s3.tmr⟩
  simp only [List.set_set, List.length_set] at A5
  refine ⟨A5, ?_, (Grow.refl _ _).upd hg1 _⟩
  have f1 : Fr (fun k => (ρ k).1 ≠ 0) w2 (((w2.setCell ⟨g, i * 6, none⟩ (.bool true)).setCell ⟨g, i * 6 + 2, none⟩ (.int .i64 y)).setCell ⟨g, i * 6 + 3, none⟩ (.int .i64 x)) :=
    (((Fr.refl _ _).setCell (.inl (by simp only; rw [hρ]; simp)) _).setCell (.inl (by simp only; rw [hρ]; simp)) _).setCell (.inl (by simp only; rw [hρ]; simp)) _
  exact (f1.trans' (Fr.of_below (S := fun k => (ρ k).1 ≠ 0) hb) (fun _ _ h => h)).setCell (.inl (by simp only; rw [hρ]; simp)) _

/-- all of it together: what Write leaves -/
theorem write_fin {w w1 w2 wf : World} {b : Nat} {ρ ρ1 ρ2 : Nat → Nat × Nat} {S S1 : RS} {A : Abs} (T : After w b ρ S A w1 ρ1 S1) (q : Nat) (hq : q < S1.n) (g cap : Nat) (l : List SP) (hx : S1.rows[q]? = some (.slice (some ⟨g, 0, none⟩) l.length cap, l)) (i : Nat) (s : SP) (hk : l[i]? = some s)
    (p : ByteArray) (hp : S1.paths[i]? = some p) (x : Int) (hx0 : 0 ≤ x) (cw : Value) (cl : List Int) (hc : S1.coms[q]? = some (cw, cl)) (hF2 : Fr (fun k => (ρ1 k).1 ≠ 0) w1 w2) (sf : SP) (htm : sf.tm = s.tm.set q x)
    (hR : RefRep wf b ρ2 { S1 with coms := S1.coms.set q (cw, cl.set q x), rows := S1.rows.set q (.slice (some ⟨g, 0, none⟩) l.length cap, (l.map (tmSet q x)).set i sf) }) (hF : Fr (fun k => (ρ1 k).1 ≠ 0) w2 wf) (hG : Grow w2 ρ1 ρ2) :
    After w b ρ S (A.set q (if sf.there = true then put p sf.text (A.F q) else del p (A.F q)) x) wf ρ2 { S1 with coms := S1.coms.set q (cw, cl.set q x), rows := S1.rows.set q (.slice (some ⟨g, 0, none⟩) l.length cap, (l.map (tmSet q x)).set i sf) } := by
  have hs : s.tm = cl := T.inv.tm q _ l cw cl hx hc s (List.mem_of_getElem? hk)
  exact T.chain hR (T.inv.spotSet T.rep q hq x hx0 _ _ cw l cl hx hc i p hp sf (by rw [htm, hs])) (hF2.trans hF) ((Grow.refl _ _).trans hF2.size hG) rfl rfl

theorem write_put {w w1 w2 wf : World} {b : Nat} {ρ ρ1 ρ2 : Nat → Nat × Nat} {S S1 : RS} {A A' : Abs} (T : After w b ρ S A w1 ρ1 S1) (q : Nat) (hq : q < S1.n) (g cap : Nat) (l : List SP) (hx : S1.rows[q]? = some (.slice (some ⟨g, 0, none⟩) l.length cap, l)) (i : Nat) (s : SP) (hk : l[i]? = some s)
    (p t : ByteArray) (hp : S1.paths[i]? = some p) (x : Int) (hx0 : 0 ≤ x) (cw : Value) (cl : List Int) (hc : S1.coms[q]? = some (cw, cl)) (hF2 : Fr (fun k => (ρ1 k).1 ≠ 0) w1 w2) (sf : SP) (htm : sf.tm = s.tm.set q x) (hth : sf.there = true) (hte : sf.text = t) (hA' : A' = A.set q (put p t (A.F q)) x)
    (hR : RefRep wf b ρ2 { S1 with coms := S1.coms.set q (cw, cl.set q x), rows := S1.rows.set q (.slice (some ⟨g, 0, none⟩) l.length cap, (l.map (tmSet q x)).set i sf) }) (hF : Fr (fun k => (ρ1 k).1 ≠ 0) w2 wf) (hG : Grow w2 ρ1 ρ2) :
    ∃ ρ' S', After w b ρ S A' wf ρ' S' := by
  have := write_fin T q hq g cap l hx i s hk p hp x hx0 cw cl hc hF2 sf htm hR hF hG
  rw [if_pos hth, hte, ← hA'] at this
  exact ⟨_, _, this⟩

theorem writeE_ok {A : Abs} {q : Nat} {p t : ByteArray} (ho : A.out (q : Int) = false) (hp : pathOk p = true) (ht : ¬ 60 < t.size) :
    A.writeE q p t = if 1000000000 ≤ A.c q ∨ (get p (A.F q) = none ∧ 20 ≤ (A.F q).length) then 5 else 0 := by
  unfold Abs.writeE
  rw [if_neg (by rw [ho]; simp), if_neg (by rw [hp]; simp), if_neg ht, Int.toNat_natCast]

set_option maxHeartbeats 1000000 in
theorem refWrite_any (b : Nat) (r : Int) (p t : ByteArray) (ρ : Nat → Nat × Nat) (S : RS) (A : Abs) (w : World) (h : RefRep w b ρ S) (hI : RInv S A) (hm : S.paths.length ≤ 100000000) (hs : p.size ≤ maxLen) (hts : t.size ≤ maxLen) :
    Calls Tryz.prog 83 #[.pointer (some ⟨b, 0, none⟩), .int .i64 r, .string p, .string t] w fun e w' => ∃ ρ' S', e = .returned (.int .i64 (A.writeE r p t)) ∧ After w b ρ S (A.write r p t) w' ρ' S' := by
  unfold maxLen at hts
  cases ho : A.out r with
  | true =>
    have e1 : A.writeE r p t = 1 := by unfold Abs.writeE; rw [if_pos ho]
    have e2 : A.write r p t = A := by unfold Abs.write; rw [e1]; rfl
    rw [e1, e2]
    have H := hide (After.refl h hI)
    have C := hide (asked_bad b r p ρ S A w h hI hs ho)
    clear h hI e1 e2
    go_enter Tryz.func83, Tryz.ntmps83
    go_wp2_with (go_at_call 150; refine C.out.mono ?_; rintro e w' ⟨rfl, rfl⟩)
    go_ret
    exact ⟨ρ, S, rfl, H.out⟩
  | false =>
    cases hp : pathOk p with
    | false =>
      have e1 : A.writeE r p t = 2 := by unfold Abs.writeE; rw [if_neg (by rw [ho]; simp), if_pos hp]
      have e2 : A.write r p t = A := by unfold Abs.write; rw [e1]; rfl
      rw [e1, e2]
      have H := hide (After.refl h hI)
      have C := hide (asked_path b r p ρ S A w h hI hs ho hp)
      clear h hI e1 e2
      go_enter Tryz.func83, Tryz.ntmps83
      go_wp2_with (go_at_call 150; refine C.out.mono ?_; rintro e w' ⟨rfl, rfl⟩)
      go_ret
      exact ⟨ρ, S, rfl, H.out⟩
    | true =>
      have C := hide (asked_ok b r p ρ S A w h hI hs ho hp)
      by_cases hlong : 60 < t.size
      · have e1 : A.writeE r p t = 3 := by unfold Abs.writeE; rw [if_neg (by rw [ho]; simp), if_neg (by rw [hp]; simp), if_pos hlong]
        have e2 : A.write r p t = A := by unfold Abs.write; rw [e1]; rfl
        rw [e1, e2]
        have H := hide (After.refl h hI)
        clear h hI e1 e2
        go_enter Tryz.func83, Tryz.ntmps83
        go_wp2_with (go_at_call 150; refine C.out.mono ?_; rintro e w' ⟨rfl, rfl⟩)
        go_ret
        exact ⟨ρ, S, rfl, H.out⟩
      · have D := hide (place_any b p ρ S A w h hI hm)
        have HPO := hide hp
        obtain ⟨q, rfl, hq⟩ := out_nat ho
        have e1 := hide (writeE_ok ho hp hlong)
        have hqn : q < S.n := by rw [← hI.n]; exact hq
        clear h hI ho hp hq
        go_enter Tryz.func83, Tryz.ntmps83
        go_wp2_with fail
        refine C.out.mono ?_
        rintro e w ⟨rfl, rfl⟩
        go_wp2_with fail
        refine D.out.mono ?_
        rintro e w1 ⟨ρ', S', i, rfl, hR, hI', hG, hF, hpi, hn', hl', hsub⟩
        obtain ⟨sg, sc, g, cap, l, s, es, h3, hsr, hx, hks, hll, hA, hP, hg, hc, _⟩ := spot_at hR hI' q (by omega) i p hpi
        have hget := hP.get
        rw [← hA, rowM_head] at hget
        have c0 : w1.cell? ⟨g, i * 6, none⟩ = some (.bool s.there) := by simpa [SP.cells] using hc 0 (by omega)
        have hil : i < l.length := (List.getElem?_eq_some_iff.1 hks).1
        have hn6 := hR.n6
        have T := hide (⟨hR, hI', hG, hF, hn', hl', fun q hq => (hsub q hq).imp id (fun e => by rw [e]; exact HPO.out)⟩ : After w b ρ S A w1 ρ' S')
        have hqn' : q < S'.n := by omega
        have hcnt := hI'.cnt q hqn'
        have hfl : (A.F q).length = filesOf l := by rw [hI'.files q _ l hx, rowF_length _ _ (by omega)]
        have HX := hide hx
        have HKS := hide hks
        have HPI := hide hpi
        have HGET := hide hget
        have HFL := hide hfl
        have SP1 := hide (spent_any b q ρ' S' w1 hR hqn')
        have FI1 := hide (files_any b q ρ' S' w1 hR hqn')
        have AC1 := hide (acts_any b q ρ' S' w1 hR hqn' (by rw [← hcnt.1]; exact hcnt.2))
        rw [← hcnt.1] at SP1 AC1
        have HC0 := hide hcnt.2
        clear hks hx es hA hP hc hpi hG hF hl' hll hI' hR hn' hget hcnt hfl
        by_cases hsp : 1000000000 ≤ A.c q
        · have E1 : Hid (A.writeE q p t = 5) := by unfold Hid; rw [e1.out, if_pos (.inl hsp)]
          have E2 : Hid (A.write q p t = A) := by unfold Hid Abs.write; rw [E1.out]; rfl
          have hd : decide (1000000000 ≤ A.c q) = true := by simp [hsp]
          rw [hd] at SP1
          clear hd e1
          generalize S'.n = n at *
          go_wp2_with (go_at_call 151; refine SP1.out.mono ?_; rintro e w' ⟨rfl, rfl⟩)
          go_ret
          exact ⟨ρ', S', ret_int (E1.out.symm), by rw [E2.out]; exact T.out⟩
        · have hd : decide (1000000000 ≤ A.c q) = false := by simp; omega
          rw [hd] at SP1
          clear hd
          cases ht : s.there with
          | true =>
            rw [ht] at c0 HGET
            rw [if_pos rfl] at HGET
            have E1 : Hid (A.writeE q p t = 0) := by unfold Hid; rw [e1.out, if_neg (by rintro (q1 | ⟨q2, _⟩); exact hsp q1; rw [HGET.out] at q2; cases q2)]
            have E2 : Hid (A.write q p t = A.set q (put p t (A.F q)) (A.c q + 1)) := by unfold Hid Abs.write; rw [E1.out, Int.toNat_natCast]; rfl
            clear e1 HGET
            have HT := hide ht
            clear ht
            have hsp' : A.c q < 1000000000 := by omega
            have HCX := hide (rfl : A.c q + 1 = A.c q + 1)
            go_wp2_with fail
            refine SP1.out.mono ?_
            rintro e w1 ⟨rfl, rfl⟩
            go_wp2_with fail
            refine (AC1.out hsp').mono ?_
            rintro e w2 ⟨cw, cl, v, l0, hxc, hxr, rfl, hR2, hF2, hz2⟩
            rw [HX.out] at hxr
            simp at hxr
            obtain ⟨rfl, rfl⟩ := hxr
            have hql : q < S'.rows.length := (List.getElem?_eq_some_iff.1 HX.out).1
            obtain ⟨hx2, hk2⟩ := acted_row (x := A.c q + 1) (cw := cw) (cl := cl) hql HKS.out
            obtain ⟨sg2, sc2, gc0, cc0, gt0, ct0, b3, bs, six⟩ := hR2.access q hqn' g cap _ hx2 i _ hk2
            have hsp2 := hR2.sp q _ hx2 _ (List.mem_of_getElem? hk2)
            have hρg : ρ' g = (5, q) := (hR2.row q _ hx2).2 g rfl
            have HCH := hide (ownsRow_far (a := ⟨g, i * 6 + 1, none⟩) (u := .string t) hsp2.ch hsp2.chr hρg (by simp))
            rw [six.ch] at HCH
            have hchl : s.ch.length = S'.n := hsp2.chl
            have hn1 : 1 ≤ S'.n := hR2.n1
            have hgl : g < w2.heap.size := hR2.lt g (by rw [hρg]; simp)
            have m1 := six.c1
            have m4 := six.c4
            have mf := six.fz
            have R2 := hide hR2
            have TL := hide (fun w4 hb gc cc ch hch hchl => write_tail (w4 := w4) hR2 q hqn' g cap _ hx2 i _ hk2 t hb gc cc ch hch hchl (A.c q + 1))
            have F2 := hide hF2
            have XC := hide hxc
            have X2 := hide hx2
            have K2 := hide hk2
            have CL := hide hchl
            clear hR2 hF2 hxc hx2 hk2 hsp2 six hz2 hchl
            generalize hN : S'.n = n at *
            have HN := hide hN
            clear hN
            generalize hX : A.c q + 1 = x at *
            have HX1 := hide hX
            clear hX
            rw [List.length_map] at bs
            go_wp2_with fail
            refine (copied_form _ s.ch _ HCH.out (by rw [CL.out]; omega) (by rw [CL.out]; omega)).mono ?_
            rintro e w4 ⟨gc, cc, rfl, ho4, hg4, hl4, hb4⟩
            have TT := hide (TL.out w4 hb4 gc cc s.ch ho4 (by rw [CL.out]))
            rw [CL.out] at ho4 ⊢
            have hne : gc ≠ g := by rw [size_setCell] at hg4; omega
            have n4 : w4.cell? ⟨g, i * 6 + 4, none⟩ = some (.slice (some ⟨gc0, 0, none⟩) n cc0) := by rw [hb4.cell (by rw [size_setCell]; exact hgl)]; exact (World.cell?_setCell_other w2 ⟨g, i * 6 + 1, none⟩ ⟨g, i * 6 + 4, none⟩ (.string t) (by simp)).trans m4
            have nf : w4.frozen? ⟨g, i * 6 + 4, none⟩ = false := by rw [hb4.frozen (by rw [size_setCell]; exact hgl), World.frozen?_setCell]; exact mf _
            have nq : w4.cell? ⟨gc, q, none⟩ = some (.int .i64 (s.ch.getD q 0)) := by rw [World.ownsRow.cellAt ho4 q (by omega)]; exact ivs_get _ _ (by rw [CL.out]; exact hqn')
            have nqf : w4.frozen? ⟨gc, q, none⟩ = false := World.ownsRow.frozenAt ho4 q
            generalize s.ch.getD q 0 = z at nq
            clear ho4 hg4 hl4 hb4 m1 m4 mf b3 bs HCH TL
            go_wp2
            go_ret
            have hN := HN.out
            have hX := HX1.out
            subst hN
            subst hX
            obtain ⟨RT, FT, GT⟩ := TT.out
            simp only [List.set_set, List.length_map] at RT
            obtain ⟨ρf, Sf, fin⟩ := write_put T.out q hqn' g cap l HX.out i s HKS.out p t HPI.out (A.c q + 1) (by have := HC0.out; omega) cw cl XC.out F2.out { tmSet q (A.c q + 1) s with text := t, chv := .slice (some ⟨gc, 0, none⟩) S'.n cc, ch := s.ch.set q (A.c q + 1) } rfl HT.out rfl E2.out RT FT GT
            exact ⟨ρf, Sf, ret_int E1.out.symm, fin⟩
          | false =>
            rw [ht] at c0 HGET
            rw [if_neg (by simp)] at HGET
            by_cases hfu : 20 ≤ filesOf l
            · have E1 : Hid (A.writeE q p t = 5) := by unfold Hid; rw [e1.out, if_pos (.inr ⟨HGET.out, by rw [HFL.out]; exact hfu⟩)]
              have E2 : Hid (A.write q p t = A) := by unfold Hid Abs.write; rw [E1.out]; rfl
              clear e1 HGET ht
              generalize hN : S'.n = n at *
              have HN := hide hN
              clear hN
              go_wp2_with (first | (go_at_call 151; refine SP1.out.mono ?_; rintro e w1 ⟨rfl, rfl⟩) | (go_at_call 60; refine FI1.out.mono ?_; rintro e w1 ⟨v, l0, hxr, rfl, rfl⟩; rw [HX.out] at hxr; simp at hxr; obtain ⟨rfl, rfl⟩ := hxr))
              go_ret
              exact ⟨ρ', S', ret_int (E1.out.symm), by rw [E2.out]; exact T.out⟩
            · have E1 : Hid (A.writeE q p t = 0) := by unfold Hid; rw [e1.out, if_neg (by rintro (q1 | ⟨_, q2⟩); exact hsp q1; rw [HFL.out] at q2; exact hfu q2)]
              have E2 : Hid (A.write q p t = A.set q (put p t (A.F q)) (A.c q + 1)) := by unfold Hid Abs.write; rw [E1.out, Int.toNat_natCast]; rfl
              clear e1 HGET
              have HT := hide ht
              clear ht
              have hsp' : A.c q < 1000000000 := by omega
              go_wp2_with fail
              refine SP1.out.mono ?_
              rintro e w1 ⟨rfl, rfl⟩
              go_wp2_with fail
              refine FI1.out.mono ?_
              rintro e w1 ⟨v, l0, hxr, rfl, rfl⟩
              rw [HX.out] at hxr
              simp at hxr
              obtain ⟨rfl, rfl⟩ := hxr
              go_wp2_with fail
              refine (AC1.out hsp').mono ?_
              rintro e w2 ⟨cw, cl, v, l0, hxc, hxr, rfl, hR2, hF2, hz2⟩
              rw [HX.out] at hxr
              simp at hxr
              obtain ⟨rfl, rfl⟩ := hxr
              have hql : q < S'.rows.length := (List.getElem?_eq_some_iff.1 HX.out).1
              obtain ⟨hx2, hk2⟩ := acted_row (x := A.c q + 1) (cw := cw) (cl := cl) hql HKS.out
              obtain ⟨sg2, sc2, gc0, cc0, gt0, ct0, b3, bs, six⟩ := hR2.access q hqn' g cap _ hx2 i _ hk2
              have hρg : ρ' g = (5, q) := (hR2.row q _ hx2).2 g rfl
              have hn1 : 1 ≤ S'.n := hR2.n1
              have hgl : g < w2.heap.size := hR2.lt g (by rw [hρg]; simp)
              have hbg : b ≠ g := by rintro rfl; rw [hR2.rb] at hρg; simp at hρg
              have b0 := hR2.c0
              have m0 := six.c0
              have m1 := six.c1
              have m2 := six.c2
              have m3 := six.c3
              have m4 := six.c4
              have mf := six.fz
              have NW := hide (fun w4 hb gc cc hg1 ch base hch hchl => write_new (w4 := w4) hR2 q hqn' g cap _ hx2 i _ hk2 q (A.c q + 1) hb gc cc hg1 ch base hch hchl)
              have F2 := hide hF2
              have XC := hide hxc
              have hil2 : i < (l.map (tmSet q (A.c q + 1))).length := by rw [List.length_map]; exact hil
              have hql2 : q < (S'.rows.set q (.slice (some ⟨g, 0, none⟩) l.length cap, l.map (tmSet q (A.c q + 1)))).length := by rw [List.length_set]; exact hql
              clear hR2 hF2 hxc hx2 hk2 six hz2
              rw [List.length_map] at bs
              go_wp2_with fail
              refine (zeros_form S'.n hn1 hn6 _).mono ?_
              rintro e wB ⟨gz, cz, rfl, hoz, hgz, hlz, hbz⟩
              have hsz : (((w2.setCell ⟨g, i * 6, none⟩ (.bool true)).setCell ⟨g, i * 6 + 2, none⟩ (.int .i64 q)).setCell ⟨g, i * 6 + 3, none⟩ (.int .i64 (A.c q + 1))).heap.size = w2.heap.size := by rw [size_setCell, size_setCell, size_setCell]
              obtain ⟨RC, FC, GC⟩ := NW.out wB hbz gz cz (by rw [hsz] at hgz; exact hgz) (List.replicate S'.n 0) _ hoz (by simp)
              simp only [List.set_set, List.length_map] at RC
              have n4 : wB.cell? ⟨g, i * 6 + 4, none⟩ = some (.slice (some ⟨gc0, 0, none⟩) S'.n cc0) := by
                rw [hbz.cell (by rw [hsz]; exact hgl), World.cell?_setCell_other _ ⟨g, i * 6 + 3, none⟩ ⟨g, i * 6 + 4, none⟩ _ (by simp), World.cell?_setCell_other _ ⟨g, i * 6 + 2, none⟩ ⟨g, i * 6 + 4, none⟩ _ (by simp), World.cell?_setCell_other _ ⟨g, i * 6, none⟩ ⟨g, i * 6 + 4, none⟩ _ (by simp)]
                exact m4
              have n1 : wB.cell? ⟨g, i * 6 + 1, none⟩ = some (.string s.text) := by
                rw [hbz.cell (by rw [hsz]; exact hgl), World.cell?_setCell_other _ ⟨g, i * 6 + 3, none⟩ ⟨g, i * 6 + 1, none⟩ _ (by simp), World.cell?_setCell_other _ ⟨g, i * 6 + 2, none⟩ ⟨g, i * 6 + 1, none⟩ _ (by simp), World.cell?_setCell_other _ ⟨g, i * 6, none⟩ ⟨g, i * 6 + 1, none⟩ _ (by simp)]
                exact m1
              have nf : ∀ k, wB.frozen? ⟨g, k, none⟩ = false := fun k => by
                rw [hbz.frozen (by rw [hsz]; exact hgl), World.frozen?_setCell, World.frozen?_setCell, World.frozen?_setCell]; exact mf k
              have hglB : g < wB.heap.size := by have := hbz.size; omega
              have hxC : ({ S' with coms := S'.coms.set q (cw, cl.set q (A.c q + 1)), rows := S'.rows.set q (.slice (some ⟨g, 0, none⟩) l.length cap, (l.map (tmSet q (A.c q + 1))).set i { tmSet q (A.c q + 1) s with there := true, by_ := q, num := A.c q + 1, chv := .slice (some ⟨gz, 0, none⟩) S'.n cz, ch := List.replicate S'.n 0 }) } : RS).rows[q]? =
                  some (.slice (some ⟨g, 0, none⟩) ((l.map (tmSet q (A.c q + 1))).set i { tmSet q (A.c q + 1) s with there := true, by_ := q, num := A.c q + 1, chv := .slice (some ⟨gz, 0, none⟩) S'.n cz, ch := List.replicate S'.n 0 }).length cap, (l.map (tmSet q (A.c q + 1))).set i { tmSet q (A.c q + 1) s with there := true, by_ := q, num := A.c q + 1, chv := .slice (some ⟨gz, 0, none⟩) S'.n cz, ch := List.replicate S'.n 0 }) := by
                rw [List.length_set, List.length_map]
                simp [hql]
              have hkC : ((l.map (tmSet q (A.c q + 1))).set i { tmSet q (A.c q + 1) s with there := true, by_ := q, num := A.c q + 1, chv := .slice (some ⟨gz, 0, none⟩) S'.n cz, ch := List.replicate S'.n 0 })[i]? = some { tmSet q (A.c q + 1) s with there := true, by_ := q, num := A.c q + 1, chv := .slice (some ⟨gz, 0, none⟩) S'.n cz, ch := List.replicate S'.n 0 } := by
                rw [List.getElem?_set_self (by rw [List.length_map]; exact hil)]
              have TL := hide (fun w4 hb gc cc ch hch hchl => write_tail (w4 := w4) RC q hqn' g cap _ hxC i _ hkC t hb gc cc ch hch hchl (A.c q + 1))
              have spC := RC.sp q _ hxC _ (List.mem_of_getElem? hkC)
              have hρC : (upd ρ' gz (6, 0)) g = (5, q) := (RC.row q _ hxC).2 g rfl
              have HCH := hide (ownsRow_far (a := ⟨g, i * 6 + 1, none⟩) (u := .string t) spC.ch spC.chr hρC (by simp))
              have FCH := hide FC
              have GCH := hide GC
              have hneB : gz ≠ g := by rw [hsz] at hgz; omega
              clear RC FC GC spC hoz hgz hlz hbz hsz NW b0 m0 m1 m2 m3 m4 mf bs b3 hxC hkC
              go_wp2_with fail
              refine (copied_form _ (List.replicate S'.n 0) _ HCH.out (by simp; omega) (by simp; omega)).mono ?_
              rintro e w4 ⟨gc, cc, rfl, ho4, hg4, hl4, hb4⟩
              have TT := hide (TL.out w4 hb4 gc cc (List.replicate S'.n 0) ho4 (by simp))
              rw [List.length_replicate] at ho4 ⊢
              have hne : gc ≠ g := by rw [size_setCell, size_setCell] at hg4; omega
              have p4 : w4.cell? ⟨g, i * 6 + 4, none⟩ = some (.slice (some ⟨gz, 0, none⟩) S'.n cz) := by
                rw [hb4.cell (by rw [size_setCell, size_setCell]; exact hglB), World.cell?_setCell_other _ ⟨g, i * 6 + 1, none⟩ ⟨g, i * 6 + 4, none⟩ _ (by simp)]
                exact World.cell?_setCell_same _ _ _ n4
              have pf : w4.frozen? ⟨g, i * 6 + 4, none⟩ = false := by rw [hb4.frozen (by rw [size_setCell, size_setCell]; exact hglB), World.frozen?_setCell, World.frozen?_setCell]; exact nf _
              have pq : w4.cell? ⟨gc, q, none⟩ = some (.int .i64 ((List.replicate S'.n (0 : Int)).getD q 0)) := by rw [World.ownsRow.cellAt ho4 q (by omega)]; exact ivs_get _ _ (by simp; exact hqn')
              have pqf : w4.frozen? ⟨gc, q, none⟩ = false := World.ownsRow.frozenAt ho4 q
              generalize (List.replicate S'.n (0 : Int)).getD q 0 = z at pq
              clear ho4 hg4 hl4 hb4 n1 n4 nf HCH TL
              go_wp2
              go_ret
              obtain ⟨RT, FT, GT⟩ := TT.out
              simp only [List.set_set, List.length_set, List.length_map] at RT
              have FT' := FCH.out.trans' FT (fun k hk' hu => by
                unfold upd at hu
                by_cases e : k = gz
                · subst e; have := GCH.out k (by simp [upd]); rcases this with u | u; exact u; omega
                · rw [if_neg e] at hu; exact hu)
              obtain ⟨ρf, Sf, fin⟩ := write_put T.out q hqn' g cap l HX.out i s HKS.out p t HPI.out (A.c q + 1) (by have := HC0.out; omega) cw cl XC.out F2.out { tmSet q (A.c q + 1) s with there := true, by_ := q, num := A.c q + 1, text := t, chv := .slice (some ⟨gc, 0, none⟩) S'.n cc, ch := (List.replicate S'.n 0).set q (A.c q + 1) } rfl rfl rfl E2.out RT FT' (GCH.out.trans FCH.out.size GT)
              exact ⟨ρf, Sf, ret_int E1.out.symm, fin⟩

end Go.Proofs.YtaelaldmibgibaaGreatDoor

namespace Go.Proofs.YtaelaldmibgibaaGreatDoor
open Go.RowKit
attribute [local go_sem ↓] Go.wp_at_zero Go.wp_at_succ

/-- the world where a spot's four plain cells are cleared -/
def cleared (w : World) (g o : Nat) : World := (((w.setCell ⟨g, o, none⟩ (.bool false)).setCell ⟨g, o + 1, none⟩ (.string ⟨#[]⟩)).setCell ⟨g, o + 2, none⟩ (.int .i64 0)).setCell ⟨g, o + 3, none⟩ (.int .i64 0)
theorem cleared_size (w : World) (g o : Nat) : (cleared w g o).heap.size = w.heap.size := by unfold cleared; rw [size_setCell, size_setCell, size_setCell, size_setCell]

theorem cleared_cell (w : World) (g o k j : Nat) (h : k ≠ g) : (cleared w g o).cell? ⟨k, j, none⟩ = w.cell? ⟨k, j, none⟩ := by
  unfold cleared
  rw [World.cell?_setCell_far _ _ _ _ (by exact Ne.symm h), World.cell?_setCell_far _ _ _ _ (by exact Ne.symm h), World.cell?_setCell_far _ _ _ _ (by exact Ne.symm h), World.cell?_setCell_far _ _ _ _ (by exact Ne.symm h)]

/-- cells of other blocks behind gone -/
theorem gone_far {w wB : World} {g o k j : Nat} {u : Value} (hb : Below (cleared w g o).heap.size (cleared w g o) wB) (h : k ≠ g) (hk : k < w.heap.size) : (wB.setCell ⟨g, o + 4, none⟩ u).cell? ⟨k, j, none⟩ = w.cell? ⟨k, j, none⟩ := by
  rw [World.cell?_setCell_far _ _ _ _ (by exact Ne.symm h), hb.cell (by rw [cleared_size]; exact hk), cleared_cell w g o k j h]

/-- the blocks on the road to a spot are others than its row -/
theorem RefRep.road {w : World} {b : Nat} {ρ : Nat → Nat × Nat} {S : RS} (h : RefRep w b ρ S) (q g : Nat) (hρ : ρ g = (5, q)) (sg sc : Nat) (h3 : w.cell? ⟨b, 3, none⟩ = some (.slice (some ⟨sg, 0, none⟩) S.n sc)) : b ≠ g ∧ b < w.heap.size ∧ sg ≠ g ∧ sg < w.heap.size := by
  have e : S.sv = .slice (some ⟨sg, 0, none⟩) S.n sc := by rw [h.c3] at h3; simpa using h3
  have r1 : ρ sg = (8, 0) := h.rs sg (by rw [e]; rfl)
  refine ⟨?_, h.lt b (by rw [h.rb]; decide), ?_, h.lt sg (by rw [r1]; decide)⟩
  · rintro rfl; rw [h.rb] at hρ; simp at hρ
  · rintro rfl; rw [r1] at hρ; simp at hρ

set_option maxHeartbeats 400000 in
theorem gone_any (g o n : Nat) (w : World) (v0 v1 v2 v3 v4 : Value) (h1 : 1 ≤ n) (h6 : n ≤ 6) (hg : g < w.heap.size) (c0 : w.cell? ⟨g, o, none⟩ = some v0) (c1 : w.cell? ⟨g, o + 1, none⟩ = some v1) (c2 : w.cell? ⟨g, o + 2, none⟩ = some v2) (c3 : w.cell? ⟨g, o + 3, none⟩ = some v3) (c4 : w.cell? ⟨g, o + 4, none⟩ = some v4)
    (hf : ∀ k, w.frozen? ⟨g, k, none⟩ = false) :
    Calls Tryz.prog 154 #[.pointer (some ⟨g, o, none⟩), .int .i64 n] w fun e w' => e = .returned (.tuple #[]) ∧ ∃ gz cz wB, Below (cleared w g o).heap.size (cleared w g o) wB ∧
      wB.ownsRow (cleared w g o).heap.size 3 1 (.slice (some ⟨gz, 0, none⟩) n cz) n (ivs (List.replicate n 0)) ∧ w.heap.size ≤ gz ∧ w' = wB.setCell ⟨g, o + 4, none⟩ (.slice (some ⟨gz, 0, none⟩) n cz) := by
  have CS := hide (cleared_size w g o)
  have CW : Hid (cleared w g o = (((w.setCell ⟨g, o, none⟩ (.bool false)).setCell ⟨g, o + 1, none⟩ (.string ⟨#[]⟩)).setCell ⟨g, o + 2, none⟩ (.int .i64 0)).setCell ⟨g, o + 3, none⟩ (.int .i64 0)) := rfl
  have C4 : Hid ((cleared w g o).cell? ⟨g, o + 4, none⟩ = some v4) := by
    unfold Hid cleared
    rw [World.cell?_setCell_other _ ⟨g, o + 3, none⟩ ⟨g, o + 4, none⟩ _ (by simp), World.cell?_setCell_other _ ⟨g, o + 2, none⟩ ⟨g, o + 4, none⟩ _ (by simp), World.cell?_setCell_other _ ⟨g, o + 1, none⟩ ⟨g, o + 4, none⟩ _ (by simp), World.cell?_setCell_other _ ⟨g, o, none⟩ ⟨g, o + 4, none⟩ _ (by simp)]
    exact c4
  have CF : Hid ((cleared w g o).frozen? ⟨g, o + 4, none⟩ = false) := by
    unfold Hid cleared
    rw [World.frozen?_setCell, World.frozen?_setCell, World.frozen?_setCell, World.frozen?_setCell]
    exact hf _
  go_enter Tryz.func154, Tryz.ntmps154
  go_wp2_with fail
  rw [← CW.out]
  refine (zeros_form n h1 h6 _).mono ?_
  rintro e wB ⟨gz, cz, rfl, hoz, hgz, hlz, hbz⟩
  have n4 : wB.cell? ⟨g, o + 4, none⟩ = some v4 := (hbz.cell (p := ⟨g, o + 4, none⟩) (by rw [CS.out]; exact hg)).trans C4.out
  have nf : wB.frozen? ⟨g, o + 4, none⟩ = false := (hbz.frozen (p := ⟨g, o + 4, none⟩) (by rw [CS.out]; exact hg)).trans CF.out
  have H1 := hide hbz
  have H2 := hide hoz
  have H3 := hide hgz
  clear hbz hoz hgz hlz c0 c1 c2 c3 c4 hf
  go_wp2
  go_end0
  exact ⟨rfl, gz, cz, wB, H1.out, H2.out, by rw [← CS.out]; exact H3.out, rfl⟩

/-- what it leaves of a net -/
theorem gone_tail {w2 w4 : World} {b : Nat} {ρ : Nat → Nat × Nat} {S2 : RS} (hR2 : RefRep w2 b ρ S2) (q : Nat) (hq : q < S2.n) (g cap : Nat) (l : List SP) (hx : S2.rows[q]? = some (.slice (some ⟨g, 0, none⟩) l.length cap, l)) (i : Nat) (s : SP) (hk : l[i]? = some s)
    (hb : Below (cleared w2 g (i * 6)).heap.size (cleared w2 g (i * 6)) w4)
    (gc cc : Nat) (hg1 : w2.heap.size ≤ gc) (ch : List Int) (base : Nat) (hch : w4.ownsRow base 3 1 (.slice (some ⟨gc, 0, none⟩) S2.n cc) S2.n (ivs ch)) (hchl : ch.length = S2.n) :
    RefRep (w4.setCell ⟨g, i * 6 + 4, none⟩ (.slice (some ⟨gc, 0, none⟩) S2.n cc)) b (upd ρ gc (6, 0))
      { S2 with rows := S2.rows.set q (.slice (some ⟨g, 0, none⟩) l.length cap, l.set i { s with there := false, text := ⟨#[]⟩, by_ := 0, num := 0, chv := .slice (some ⟨gc, 0, none⟩) S2.n cc, ch := ch }) } ∧
    Fr (fun k => (ρ k).1 ≠ 0) w2 (w4.setCell ⟨g, i * 6 + 4, none⟩ (.slice (some ⟨gc, 0, none⟩) S2.n cc)) ∧ Grow w2 ρ (upd ρ gc (6, 0)) := by
  have hql : q < S2.rows.length := by rw [hR2.rowl]; exact hq
  have hρ : ρ g = (5, q) := (hR2.row q _ hx).2 g rfl
  have hi : i < l.length := (List.getElem?_eq_some_iff.1 hk).1
  obtain ⟨_, hg2⟩ := World.ownsRow.lt hch gc rfl
  have step : ∀ (W : World) (t t' : SP) (j : Nat) (u : Value), RefRep W b ρ { S2 with rows := S2.rows.set q (.slice (some ⟨g, 0, none⟩) l.length cap, l.set i t) } → j < 6 → t'.cells = t.cells.set j u → t'.chv = t.chv → t'.ch = t.ch → t'.tmv = t.tmv → t'.tm = t.tm →
      RefRep (W.setCell ⟨g, i * 6 + j, none⟩ u) b ρ { S2 with rows := S2.rows.set q (.slice (some ⟨g, 0, none⟩) l.length cap, l.set i t') } := by
    intro W t t' j u hW hj hc e1 e2 e3 e4
    have x1 : ({ S2 with rows := S2.rows.set q (.slice (some ⟨g, 0, none⟩) l.length cap, l.set i t) } : RS).rows[q]? = some (.slice (some ⟨g, 0, none⟩) (l.set i t).length cap, l.set i t) := by
      rw [List.length_set]; exact row_set hql _
    have k1 : (l.set i t)[i]? = some t := by simp [hi]
    have s1 := hW.sp q _ x1 _ (List.mem_of_getElem? k1)
    have A := hW.setSpot q g cap _ x1 i _ t' k1 j u hj hc ⟨by rw [e1, e2]; exact s1.ch, by rw [e2]; exact s1.chl, by rw [e1]; exact s1.chr, by rw [e3, e4]; exact s1.tm, by rw [e4]; exact s1.tml, by rw [e3]; exact s1.tmr⟩
    simp only [List.set_set, List.length_set] at A
    exact A
  have start : RefRep w2 b ρ { S2 with rows := S2.rows.set q (.slice (some ⟨g, 0, none⟩) l.length cap, l.set i s) } := by
    have e : ({ S2 with rows := S2.rows.set q (.slice (some ⟨g, 0, none⟩) l.length cap, l.set i s) } : RS) = S2 := by
      have e1 : l.set i s = l := by
        obtain ⟨h, rfl⟩ := List.getElem?_eq_some_iff.1 hk
        exact List.set_getElem_self h
      have e2 : S2.rows.set q (.slice (some ⟨g, 0, none⟩) l.length cap, l) = S2.rows := by
        obtain ⟨h, he⟩ := List.getElem?_eq_some_iff.1 hx
        rw [← he]; exact List.set_getElem_self h
      rw [e1, e2]
    rw [e]; exact hR2
  have A1 := step w2 s { s with there := false } 0 (.bool false) start (by omega) rfl rfl rfl rfl rfl
  have A2 := step _ _ { s with there := false, text := ⟨#[]⟩ } 1 (.string ⟨#[]⟩) A1 (by omega) rfl rfl rfl rfl rfl
  have A3 := step _ _ { s with there := false, text := ⟨#[]⟩, by_ := 0 } 2 (.int .i64 0) A2 (by omega) rfl rfl rfl rfl rfl
  have A4 := step _ _ { s with there := false, text := ⟨#[]⟩, by_ := 0, num := 0 } 3 (.int .i64 0) A3 (by omega) rfl rfl rfl rfl rfl
  have hfree : (ρ gc).1 = 0 := hR2.free hg1
  have A5 := (RefRep.below A4 hb).upd (6, 0) hfree hg2
  have x3 : ({ S2 with rows := S2.rows.set q (.slice (some ⟨g, 0, none⟩) l.length cap, l.set i { s with there := false, text := ⟨#[]⟩, by_ := 0, num := 0 }) } : RS).rows[q]? = some (.slice (some ⟨g, 0, none⟩) (l.set i { s with there := false, text := ⟨#[]⟩, by_ := 0, num := 0 }).length cap, l.set i { s with there := false, text := ⟨#[]⟩, by_ := 0, num := 0 }) := by
    rw [List.length_set]; exact row_set hql _
  have k3 : (l.set i { s with there := false, text := ⟨#[]⟩, by_ := 0, num := 0 })[i]? = some { s with there := false, text := ⟨#[]⟩, by_ := 0, num := 0 } := by simp [hi]
  have s3 := A5.sp q _ x3 _ (List.mem_of_getElem? k3)
  have A6 := A5.setSpot q g cap _ x3 i _ { s with there := false, text := ⟨#[]⟩, by_ := 0, num := 0, chv := .slice (some ⟨gc, 0, none⟩) S2.n cc, ch := ch } k3 4 (.slice (some ⟨gc, 0, none⟩) S2.n cc) (by omega) rfl
    ⟨by unfold intRow; rw [hchl]; exact ownsRow_base hch (fun _ _ => Nat.zero_le _), hchl, by intro k hk; simp [Value.ownBlock] at hk; subst hk; simp [upd], s3.tm, s3.tml, s3.tmr⟩
  simp only [List.set_set, List.length_set] at A6
  refine ⟨A6, ?_, (Grow.refl _ _).upd hg1 _⟩
  have hin : ∀ o : Nat, (fun k => (ρ k).1 ≠ 0) (⟨g, o, none⟩ : Addr).block := fun o => by simp only; rw [hρ]; simp
  have f1 : Fr (fun k => (ρ k).1 ≠ 0) w2 (cleared w2 g (i * 6)) :=
    ((((Fr.refl _ _).setCell (.inl (hin _)) _).setCell (.inl (hin _)) _).setCell (.inl (hin _)) _).setCell (.inl (hin _)) _
  exact (f1.trans' (Fr.of_below (S := fun k => (ρ k).1 ≠ 0) hb) (fun _ _ h => h)).setCell (.inl (hin _)) _

end Go.Proofs.YtaelaldmibgibaaGreatDoor
