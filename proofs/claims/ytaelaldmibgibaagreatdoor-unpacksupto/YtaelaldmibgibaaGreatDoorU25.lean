/- The document's text: within, value. The document's answer in memory: a whole spot is put into its place. The document's text: a reader; is, want. The document's text: what may stand in it: counts, kept, may. -/
import Derived.Test.YtaelaldmibgibaaGreatDoorU02
import Derived.Test.YtaelaldmibgibaaGreatDoorU08

set_option linter.unusedVariables false
set_option linter.unusedSimpArgs false

namespace Go.Proofs.YtaelaldmibgibaaGreatDoor
open Go.RowKit

/-- none of a time's numbers is above the other's -/
def wIn (a b : List Int) : Prop := ∀ j, j < a.length → a.getD j 0 ≤ b.getD j 0
def wInD (a b : List Int) : Bool := decide (∀ j, j < a.length → a.getD j 0 ≤ b.getD j 0)
theorem wInD_iff (a b : List Int) : wInD a b = true ↔ wIn a b := by
  unfold wInD wIn
  exact decide_eq_true_iff
theorem wInD_true {a b : List Int} (h : wIn a b) : wInD a b = true := (wInD_iff a b).2 h
theorem wInD_false {a b : List Int} (h : ¬ wIn a b) : wInD a b = false := by
  cases e : wInD a b with
  | false => rfl
  | true => exact absurd ((wInD_iff a b).1 e) h
theorem wIn_not {a b : List Int} {k : Nat} (hk : k < a.length) (h : b.getD k 0 < a.getD k 0) : ¬ wIn a b := fun q => by have := q k hk; omega

set_option maxHeartbeats 400000 in
theorem within_any (va vb : Value) (la lb : List Int) (w : World) (ha : intRow w va la) (hb : intRow w vb lb) (hl : la.length = lb.length) (h0 : 0 < la.length) (h6 : la.length ≤ 6) :
    Calls Tryz.prog 58 #[va, vb] w fun e w' => e = .returned (.bool (wInD la lb)) ∧ ∃ nq, w' = w.drewN nq := by
  obtain ⟨g, cap, rfl, hg, hc, _, _⟩ := ha.form h0
  obtain ⟨g', cap', rfl, hg', hc', _, _⟩ := hb.form (by omega)
  rw [← hl] at hc' ⊢
  clear ha hb hl
  generalize hn : la.length = n at *
  have HN : Hid (la.length = n) := hn
  clear hn
  go_enter Tryz.func58, Tryz.ntmps58
  go_wp2
  go_loopw [5] (fun i wr => ∃ k nq : Nat, k ≤ n ∧ i = .int .i64 k ∧ Hid (∀ j, j < k → la.getD j 0 ≤ lb.getD j 0) ∧ wr = w.drewN nq) (fun i _ => n - (intOf i).toNat)
  case atStart => exact ⟨0, 0, Nat.zero_le _, rfl, fun j hj => by omega, rfl⟩
  case round =>
    obtain ⟨k, nq, hk, rfl, he, rfl⟩ := hrel
    by_cases hlt : k < n
    · have h1 := hc k hlt
      have h2 := hc' k hlt
      have T : Hid (la.getD k 0 ≤ lb.getD k 0 → ∀ j, j < k + 1 → la.getD j 0 ≤ lb.getD j 0) := fun q j hj => by
        by_cases e : j = k
        · rw [e]; exact q
        · exact he.out j (by omega)
      have N : Hid (lb.getD k 0 < la.getD k 0 → ¬ wIn la lb) := wIn_not (by rw [HN.out]; exact hlt)
      clear hc hc'
      generalize hX : la.getD k 0 = x at *
      generalize hY : lb.getD k 0 = y at *
      clear hX hY
      by_cases hxy : y < x
      · have N' := hide (N.out hxy)
        have hd : decide (y < x) = true := by simp [hxy]
        clear T N
        go_wp2_with fail
        go_quiet (fail)
        go_wp2
        go_ret
        exact ⟨ret_bool (wInD_false (N'.out)).symm, _, World.drewN_drewN _ _ _⟩
      · have T' := hide (T.out (by omega))
        have hd : decide (y < x) = false := by simp; omega
        clear T N
        go_wp2_with fail
        go_quiet (fail)
        go_wp2
        go_roundw
        case rel => exact ⟨k + 1, _, by omega, by go_num, T', rfl⟩
        case measure => simp [intOf]; omega
    · have E : Hid (wIn la lb) := fun j hj => he.out j (by rw [HN.out] at hj; omega)
      clear hc hc'
      go_wp2
      go_ret
      exact ⟨ret_bool (wInD_true E.out).symm, _, rfl⟩

/-- the digits of the document's texts -/
def digs : ByteArray := ⟨#[48, 49, 50, 51, 52, 53, 54, 55, 56, 57, 97, 98, 99, 100, 101, 102]⟩
/-- a digit's value, looked for from the k-th on -/
def valFrom : Nat → Nat → Int → Int
  | 0, _, _ => -1
  | m + 1, k, b => if ((digs.data.getD k 0).toNat : Int) = b then k else valFrom m (k + 1) b
def valOf (b : Int) : Int := valFrom 16 0 b

set_option maxRecDepth 100000 in
set_option maxHeartbeats 1000000 in
theorem value_any (b : Int) (w : World) : Calls Tryz.prog 166 #[.int .u8 b] w fun e w' => e = .returned (.int .i64 (valOf b)) ∧ w' = w := by
  go_enter Tryz.func166, Tryz.ntmps166
  go_wp2
  go_loopw [3] (fun i wr => ∃ k : Nat, k ≤ 16 ∧ i = .int .i64 k ∧ Hid (valOf b = valFrom (16 - k) k b) ∧ w = wr) (fun i _ => 16 - (intOf i).toNat)
  case atStart => exact ⟨0, by omega, rfl, rfl, rfl⟩
  case round =>
    obtain ⟨k, hk, rfl, he, rfl⟩ := hrel
    by_cases hlt : k < 16
    · have hsz : k < (⟨#[48, 49, 50, 51, 52, 53, 54, 55, 56, 57, 97, 98, 99, 100, 101, 102]⟩ : ByteArray).size := hlt
      have hx : digs.data.getD k 0 = (⟨#[48, 49, 50, 51, 52, 53, 54, 55, 56, 57, 97, 98, 99, 100, 101, 102]⟩ : ByteArray)[k] := (Array.getElem_eq_getD (h := hlt) 0).symm
      have st : valFrom (16 - k) k b = if ((digs.data.getD k 0).toNat : Int) = b then (k : Int) else valFrom (16 - (k + 1)) (k + 1) b := by
        rw [show 16 - k = (16 - (k + 1)) + 1 by omega]; rfl
      rw [hx] at st
      have ST := hide st
      clear st hx
      by_cases hb : (((⟨#[48, 49, 50, 51, 52, 53, 54, 55, 56, 57, 97, 98, 99, 100, 101, 102]⟩ : ByteArray)[k].toNat : Nat) : Int) = b
      · have hd : ((((⟨#[48, 49, 50, 51, 52, 53, 54, 55, 56, 57, 97, 98, 99, 100, 101, 102]⟩ : ByteArray)[k].toNat : Nat) : Int) == b) = true := by simp only [hb, beq_self_eq_true]
        have V : Hid (valOf b = k) := by
          have := he.out.trans ST.out
          rwa [if_pos hb] at this
        clear he ST hb
        go_wp2
        go_ret
        exact ⟨by rw [V.out]; rfl, rfl⟩
      · have hd : ((((⟨#[48, 49, 50, 51, 52, 53, 54, 55, 56, 57, 97, 98, 99, 100, 101, 102]⟩ : ByteArray)[k].toNat : Nat) : Int) == b) = false := beq_eq_false_iff_ne.2 hb
        have V : Hid (valOf b = valFrom (16 - (k + 1)) (k + 1) b) := by
          have := he.out.trans ST.out
          rwa [if_neg hb] at this
        clear he ST hb
        go_wp2
        go_roundw
        case rel => exact ⟨k + 1, by omega, by go_num, V, by trivial⟩
        case measure => simp [intOf]; omega
    · have e : k = 16 := by omega
      subst e
      have V : Hid (valOf b = -1) := he.out
      clear he
      go_wp2
      go_ret
      exact ⟨by rw [V.out]; rfl, rfl⟩

end Go.Proofs.YtaelaldmibgibaaGreatDoor

namespace Go.Proofs.YtaelaldmibgibaaGreatDoor
open Go.RowKit

theorem list_set_self {α : Type} (l : List α) (i : Nat) (a b : α) : (l.set i a).set i b = l.set i b := by simp
/-- one cell of a spot is written, and what the spot is said to be -/
theorem RefRep.cellSpot {w : World} {b : Nat} {ρ : Nat → Nat × Nat} {S : RS} {r g cap : Nat} {l : List SP} (hr : r < S.rows.length) (i : Nat) (hi : i < l.length) (s s' : SP) (j : Nat) (u : Value) (hj : j < 6) (hc : s'.cells = s.cells.set j u)
    (h : RefRep w b ρ { S with rows := S.rows.set r (.slice (some ⟨g, 0, none⟩) l.length cap, l.set i s) }) (hok : SpOk w ρ S.n r s') :
    RefRep (w.setCell ⟨g, i * 6 + j, none⟩ u) b ρ { S with rows := S.rows.set r (.slice (some ⟨g, 0, none⟩) l.length cap, l.set i s') } := by
  have e : (l.set i s).length = l.length := by simp
  have q := h.setSpot r g cap (l.set i s) (by simp [hr]) i s s' (by simp [hi]) j u hj hc hok
  simpa using q
theorem SpOk.cell {w : World} {ρ : Nat → Nat × Nat} {n r : Nat} {s : SP} {g o : Nat} {u : Value} (h : SpOk w ρ n r s) (hg : ρ g = (5, r)) : SpOk (w.setCell ⟨g, o, none⟩ u) ρ n r s := h.far hg (by simp) (by simp)

/-- a spot is written over, all of it -/
theorem RefRep.putSpot {w : World} {b : Nat} {ρ : Nat → Nat × Nat} {S : RS} (h : RefRep w b ρ S) (r : Nat) (g cap : Nat) (l : List SP) (hx : S.rows[r]? = some (.slice (some ⟨g, 0, none⟩) l.length cap, l)) (i : Nat) (s c : SP) (hs : l[i]? = some s) (hok : SpOk w ρ S.n r c) :
    RefRep (w.setCells g (i * 6) c.cells) b ρ { S with rows := S.rows.set r (.slice (some ⟨g, 0, none⟩) l.length cap, l.set i c) } := by
  have hr : r < S.rows.length := (List.getElem?_eq_some_iff.1 hx).1
  have hi : i < l.length := (List.getElem?_eq_some_iff.1 hs).1
  have hρ : ρ g = (5, r) := (h.row r _ hx).2 g rfl
  have so := h.sp r _ hx s (List.mem_of_getElem? hs)
  have e0 : { S with rows := S.rows.set r (Value.slice (some ⟨g, 0, none⟩) l.length cap, l.set i s) } = S := by
    have a1 : l.set i s = l := by
      obtain ⟨h1, h2⟩ := List.getElem?_eq_some_iff.1 hs
      rw [← h2, List.set_getElem_self]
    have a2 : S.rows.set r (Value.slice (some ⟨g, 0, none⟩) l.length cap, l) = S.rows := by
      obtain ⟨h1, h2⟩ := List.getElem?_eq_some_iff.1 hx
      rw [← h2, List.set_getElem_self]
    rw [a1, a2]
  have h0 : RefRep w b ρ { S with rows := S.rows.set r (.slice (some ⟨g, 0, none⟩) l.length cap, l.set i s) } := by rw [e0]; exact h
  obtain ⟨ct, cx, cb, cn, cchv, cch, ctmv, ctm⟩ := c
  obtain ⟨st, sx, sb, sn, schv, sch, stmv, stm⟩ := s
  have k0 := RefRep.cellSpot hr i hi ⟨st, sx, sb, sn, schv, sch, stmv, stm⟩ ⟨ct, sx, sb, sn, schv, sch, stmv, stm⟩ 0 (.bool ct) (by omega) rfl h0 ⟨so.ch, so.chl, so.chr, so.tm, so.tml, so.tmr⟩
  have o0 : SpOk (w.setCell ⟨g, i * 6 + 0, none⟩ (.bool ct)) ρ S.n r ⟨st, sx, sb, sn, schv, sch, stmv, stm⟩ := so.cell hρ
  have p0 : SpOk (w.setCell ⟨g, i * 6 + 0, none⟩ (.bool ct)) ρ S.n r ⟨ct, cx, cb, cn, cchv, cch, ctmv, ctm⟩ := hok.cell hρ
  have k1 := RefRep.cellSpot hr i hi ⟨ct, sx, sb, sn, schv, sch, stmv, stm⟩ ⟨ct, cx, sb, sn, schv, sch, stmv, stm⟩ 1 (.string cx) (by omega) rfl k0 ⟨o0.ch, o0.chl, o0.chr, o0.tm, o0.tml, o0.tmr⟩
  have o1 := o0.cell (o := i * 6 + 1) (u := .string cx) hρ
  have p1 := p0.cell (o := i * 6 + 1) (u := .string cx) hρ
  have k2 := RefRep.cellSpot hr i hi ⟨ct, cx, sb, sn, schv, sch, stmv, stm⟩ ⟨ct, cx, cb, sn, schv, sch, stmv, stm⟩ 2 (.int .i64 cb) (by omega) rfl k1 ⟨o1.ch, o1.chl, o1.chr, o1.tm, o1.tml, o1.tmr⟩
  have o2 := o1.cell (o := i * 6 + 2) (u := .int .i64 cb) hρ
  have p2 := p1.cell (o := i * 6 + 2) (u := .int .i64 cb) hρ
  have k3 := RefRep.cellSpot hr i hi ⟨ct, cx, cb, sn, schv, sch, stmv, stm⟩ ⟨ct, cx, cb, cn, schv, sch, stmv, stm⟩ 3 (.int .i64 cn) (by omega) rfl k2 ⟨o2.ch, o2.chl, o2.chr, o2.tm, o2.tml, o2.tmr⟩
  have o3 := o2.cell (o := i * 6 + 3) (u := .int .i64 cn) hρ
  have p3 := p2.cell (o := i * 6 + 3) (u := .int .i64 cn) hρ
  have k4 := RefRep.cellSpot hr i hi ⟨ct, cx, cb, cn, schv, sch, stmv, stm⟩ ⟨ct, cx, cb, cn, cchv, cch, stmv, stm⟩ 4 cchv (by omega) rfl k3 ⟨p3.ch, p3.chl, p3.chr, o3.tm, o3.tml, o3.tmr⟩
  have p4 := p3.cell (o := i * 6 + 4) (u := cchv) hρ
  exact RefRep.cellSpot hr i hi ⟨ct, cx, cb, cn, cchv, cch, stmv, stm⟩ ⟨ct, cx, cb, cn, cchv, cch, ctmv, ctm⟩ 5 ctmv (by omega) rfl k4 ⟨p4.ch, p4.chl, p4.chr, p4.tm, p4.tml, p4.tmr⟩

end Go.Proofs.YtaelaldmibgibaaGreatDoor

namespace Go.Proofs.YtaelaldmibgibaaGreatDoor
open Go.RowKit

/-- a reader: its text, how far it is read, whether the text is not as it must be -/
structure Rd (w : World) (b : Nat) (s : ByteArray) (a : Nat) (no : Bool) : Prop where
  blk : w.heap[b]? = some (.cells #[.string s, .int .i64 a, .bool no] 109 (0, 0))
  ha : a ≤ s.size
  hs : s.size ≤ 1000000000000
theorem Rd.c0 {w b s a no} (h : Rd w b s a no) : w.cell? ⟨b, 0, none⟩ = some (.string s) := by simp [World.cell?, h.blk]
theorem Rd.c1 {w b s a no} (h : Rd w b s a no) : w.cell? ⟨b, 1, none⟩ = some (.int .i64 a) := by simp [World.cell?, h.blk]
theorem Rd.c2 {w b s a no} (h : Rd w b s a no) : w.cell? ⟨b, 2, none⟩ = some (.bool no) := by simp [World.cell?, h.blk]
theorem Rd.fz {w b s a no} (h : Rd w b s a no) (j : Nat) : w.frozen? ⟨b, j, none⟩ = false := by simp [World.frozen?, h.blk]
theorem Rd.lt {w b s a no} (h : Rd w b s a no) : b < w.heap.size := (Array.getElem?_eq_some_iff.1 h.blk).1
theorem Rd.keep {w w' : World} {b : Nat} {s : ByteArray} {a : Nat} {no : Bool} (h : Rd w b s a no) (hk : w'.heap[b]? = w.heap[b]?) : Rd w' b s a no := ⟨by rw [hk]; exact h.blk, h.ha, h.hs⟩
theorem heap_set1 (w : World) (b o : Nat) (cs : Array Value) (t : TypeId) (x : Nat × Nat) (v : Value) (h : w.heap[b]? = some (.cells cs t x)) : (w.setCell ⟨b, o, none⟩ v).heap[b]? = some (.cells (cs.setIfInBounds o v) t x) := by
  simp only [World.setCell, Array.getElem?_modify, h, if_true, Option.map_some]
  rfl
theorem Rd.setAt {w : World} {b : Nat} {s : ByteArray} {a : Nat} {no : Bool} (h : Rd w b s a no) (x : Nat) (hx : x ≤ s.size) : Rd (w.setCell ⟨b, 1, none⟩ (.int .i64 x)) b s x no :=
  ⟨by simpa using heap_set1 w b 1 _ _ _ (.int .i64 x) h.blk, hx, h.hs⟩
theorem Rd.setNo {w : World} {b : Nat} {s : ByteArray} {a : Nat} {no : Bool} (h : Rd w b s a no) (x : Bool) : Rd (w.setCell ⟨b, 2, none⟩ (.bool x)) b s a x :=
  ⟨by simpa using heap_set1 w b 2 _ _ _ (.bool x) h.blk, h.ha, h.hs⟩

/-- what follows is this text -/
def hasAt (s : ByteArray) (a : Nat) (no : Bool) (p : ByteArray) : Bool := !no && (decide (a + p.size ≤ s.size) && ((s.extract a (a + p.size)).toList == p.toList))
def passed (s : ByteArray) (a : Nat) (no : Bool) (p : ByteArray) : Nat := if hasAt s a no p = true then a + p.size else a

set_option maxHeartbeats 1000000 in
theorem is_any (b : Nat) (s : ByteArray) (a : Nat) (no : Bool) (p : ByteArray) (hp : p.size ≤ 1000) (w : World) (h : Rd w b s a no) :
    Calls Tryz.prog 98 #[.pointer (some ⟨b, 0, none⟩), .string p] w fun e w' => e = .returned (.bool (hasAt s a no p)) ∧ Rd w' b s (passed s a no p) no ∧ Fr (fun k => k = b) w w' := by
  have c0 := h.c0
  have c1 := h.c1
  have c2 := h.c2
  have f1 := h.fz 1
  have ha := h.ha
  have hs := h.hs
  have H := hide h
  have F : Hid (∀ n, Fr (fun k => k = b) w (w.drewN n)) := fun n => (Fr.refl _ w).drewN n
  have N : Hid (hasAt s a no p = false → ∀ n, Rd (w.drewN n) b s (passed s a no p) no) := fun q n => by
    unfold passed
    rw [if_neg (by rw [q]; simp)]
    exact h.keep rfl
  have Y : Hid (hasAt s a no p = true → ∀ n, Rd ((w.drewN n).setCell ⟨b, 1, none⟩ (.int .i64 ((a : Int) + (p.size : Int)))) b s (passed s a no p) no) := fun q n => by
    unfold passed
    rw [if_pos q]
    have hle : a + p.size ≤ s.size := by
      unfold hasAt at q
      simp only [Bool.and_eq_true, decide_eq_true_eq] at q
      exact q.2.1
    have := (h.keep (w' := w.drewN n) rfl).setAt (a + p.size) hle
    rwa [Int.natCast_add] at this
  clear h
  cases no
  · by_cases h1 : (s.size : Int) - a < p.size
    · have hd : decide ((s.size : Int) - a < p.size) = true := by simp; omega
      have X : Hid (hasAt s a false p = false) := by
        unfold Hid hasAt
        rw [decide_eq_false (show ¬ (a + p.size ≤ s.size) by omega)]; rfl
      have N' := hide (N.out X.out)
      clear N Y
      go_enter Tryz.func98, Tryz.ntmps98
      go_wp2
      go_quiet (fail)
      go_wp2
      go_ret
      exact ⟨by rw [X.out]; rfl, N'.out _, F.out _⟩
    · have hd : decide ((s.size : Int) - a < p.size) = false := by simp; omega
      have X : Hid (hasAt s a false p = ((s.extract a (a + p.size)).toList == p.toList)) := by
        unfold Hid hasAt
        rw [decide_eq_true (show a + p.size ≤ s.size by omega)]; simp
      rw [X.out] at N Y
      cases he : ((s.extract a (a + p.size)).toList == p.toList)
      · have N' := hide (N.out he)
        have X' := hide (X.out.trans he)
        clear N Y X
        go_enter Tryz.func98, Tryz.ntmps98
        go_wp2
        go_quiet (fail)
        go_wp2
        go_ret
        exact ⟨by rw [X'.out]; rfl, N'.out _, F.out _⟩
      · have Y' := hide (Y.out he)
        have X' := hide (X.out.trans he)
        clear N Y X
        go_enter Tryz.func98, Tryz.ntmps98
        go_wp2
        go_quiet (fail)
        go_wp2
        go_ret
        exact ⟨by rw [X'.out]; rfl, Y'.out _, (F.out _).setCell (.inl rfl) _⟩
  · have X : Hid (hasAt s a true p = false) := rfl
    have N' := hide (N.out X.out)
    clear N Y
    go_enter Tryz.func98, Tryz.ntmps98
    go_wp2
    go_quiet (fail)
    go_wp2
    go_ret
    exact ⟨by rw [X.out]; rfl, N'.out _, F.out _⟩

set_option maxHeartbeats 400000 in
theorem want_any (b : Nat) (s : ByteArray) (a : Nat) (no : Bool) (p : ByteArray) (hp : p.size ≤ 1000) (w : World) (h : Rd w b s a no) :
    Calls Tryz.prog 50 #[.pointer (some ⟨b, 0, none⟩), .string p] w fun e w' => e = .returned (.tuple #[]) ∧ Rd w' b s (passed s a no p) (!hasAt s a no p) ∧ Fr (fun k => k = b) w w' := by
  have C := hide (is_any b s a no p hp w h)
  have NO : Hid (hasAt s a no p = true → no = false) := fun q => by
    unfold hasAt at q
    cases no
    · rfl
    · simp at q
  clear h
  generalize passed s a no p = a' at C ⊢
  cases hq : hasAt s a no p
  · rw [hq] at C
    clear NO hq
    go_enter Tryz.func50, Tryz.ntmps50
    go_wp2_with (go_at_call 98; refine C.out.mono ?_; rintro e w1 ⟨rfl, hr, hf⟩; have R1 := hide hr; have F1 := hide hf; have c2 := hr.c2; have f2 := hr.fz 2; clear hr hf)
    go_end0
    exact ⟨rfl, R1.out.setNo true, F1.out.setCell (.inl rfl) _⟩
  · rw [hq] at C
    have e := NO.out hq
    subst e
    clear NO hq
    go_enter Tryz.func50, Tryz.ntmps50
    go_wp2_with (go_at_call 98; refine C.out.mono ?_; rintro e w1 ⟨rfl, hr, hf⟩; have R1 := hide hr; have F1 := hide hf; clear hr hf)
    go_end0
    exact ⟨rfl, R1.out, F1.out⟩

end Go.Proofs.YtaelaldmibgibaaGreatDoor

namespace Go.Proofs.YtaelaldmibgibaaGreatDoor
open Go.RowKit

/-- the counts of all replicas -/
def cnts (S : RS) (k : Nat) : List Int := (List.range k).map S.count
theorem cnts_succ (S : RS) (k : Nat) : cnts S (k + 1) = cnts S k ++ [S.count k] := by simp [cnts, List.range_succ]
theorem cnts_len (S : RS) (k : Nat) : (cnts S k).length = k := by simp [cnts]

set_option maxRecDepth 100000 in
set_option maxHeartbeats 1000000 in
theorem counts_any (b : Nat) (ρ : Nat → Nat × Nat) (S : RS) (w : World) (h : RefRep w b ρ S) :
    Calls Tryz.prog 59 #[.pointer (some ⟨b, 0, none⟩)] w fun e w' => ∃ v, e = .returned v ∧ w'.ownsRow w.heap.size 3 1 v S.n (ivs (cnts S S.n)) ∧ Below w.heap.size w w' := by
  obtain ⟨i0, hi, hz0, hz1, hz2⟩ := info_parts info_int
  have h6 := h.n6
  have hbl : b < w.heap.size := h.lt b (by rw [h.rb]; decide)
  have HC : Hid (∀ (wr : World) (k : Nat), Below w.heap.size w wr → k < S.n → ∃ cg cc g cap, wr.cell? ⟨b, 2, none⟩ = some (.slice (some ⟨cg, 0, none⟩) S.n cc) ∧ wr.cell? ⟨cg, k, none⟩ = some (.slice (some ⟨g, 0, none⟩) S.n cap) ∧ wr.cell? ⟨g, k, none⟩ = some (.int .i64 (S.count k))) := fun wr k hb hk => by
    obtain ⟨cg, cc, g, cap, l, ec, hc, hx, hl, _, hg, hcg, _, hcell, _⟩ := h.common k hk
    have h2 := h.c2
    rw [ec] at h2
    have hcount : S.count k = l.getD k 0 := by unfold RS.count; rw [hx]; rfl
    exact ⟨cg, cc, g, cap, (hb.cell (p := ⟨b, 2, none⟩) hbl).trans h2, (hb.cell (p := ⟨cg, k, none⟩) hcg).trans hc, by rw [hcount]; exact (hb.cell (p := ⟨g, k, none⟩) hg).trans (hcell k hk)⟩
  have H0 : Hid (∀ wr : World, Below w.heap.size w wr → wr.cell? ⟨b, 0, none⟩ = some (.int .i64 S.n)) := fun wr hb => (hb.cell (p := ⟨b, 0, none⟩) hbl).trans h.c0
  clear h
  have HS : Hid (∀ k, cnts S (k + 1) = cnts S k ++ [S.count k]) := cnts_succ S
  have HL : Hid (∀ k, (cnts S k).length = k) := cnts_len S
  generalize S.n = n at *
  go_enter Tryz.func59, Tryz.ntmps59
  go_wp2
  go_loopw [3, 4] (fun v i wr => ∃ k : Nat, k ≤ n ∧ i = .int .i64 k ∧ wr.ownsRow w.heap.size 3 1 v k (ivs (cnts S k)) ∧ Below w.heap.size w wr) (fun _ i _ => n - (intOf i).toNat)
  case atStart => exact ⟨0, Nat.zero_le _, rfl, World.ownsRow_nil _ _ _ _, Below.refl _ _⟩
  case round =>
    obtain ⟨k, hk, rfl, hown, hb⟩ := hrel
    have b0 := H0.out wr hb
    by_cases hlt : k < n
    · obtain ⟨cg, cc, g, cap, e1, e2, e3⟩ := HC.out wr k hb hlt
      generalize hx : S.count k = x at *
      have HX : Hid (cnts S (k + 1) = cnts S k ++ [x]) := by unfold Hid; rw [HS.out, hx]
      clear hx
      go_wp2_with (at_builtin; refine wpList_append_own _ rfl _ _ 58 rfl w.heap.size 3 i0 (.int .i64 0) 1 8 Tryz.underlying58 hi hz0 hz1 hz2 rfl (by decide) _ _ _ rfl (hown.alloc _) ⟨wr.heap.size, 0, none⟩ 1 1 [.int .i64 x] rfl rfl ?c1 ?c2 ?c3 ?c4 ?c5 ?_)
      case c1 =>
        intro j u hj
        match j, hj with
        | 0, hj => simp at hj; subst hj; simp [Addr.add]
      case c2 => intro u hu; simp at hu; subst hu; rfl
      case c3 => unfold maxLen; omega
      case c4 => omega
      case c5 => have := hb.size; simp; omega
      intro v' w1 hown' hgrow _
      have hb' : Below w.heap.size w w1 := (hb.alloc hb.size _).grown hgrow (by have := hb.size; simp; omega) (fun q hq => (hown.lt q hq).1)
      have e1 : ivs (cnts S k) ++ [.int .i64 x] = ivs (cnts S (k + 1)) := by rw [HX.out, ivs_append]; rfl
      rw [e1] at hown'
      clear hgrow hown hb e1
      go_wp2
      go_roundw
      case rel => exact ⟨k + 1, by omega, by go_num, hown', hb'⟩
      case measure => simp [intOf]; omega
    · have e : k = n := by omega
      subst e
      go_wp2
      go_ret
      exact ⟨_, rfl, hown, hb⟩

end Go.Proofs.YtaelaldmibgibaaGreatDoor
