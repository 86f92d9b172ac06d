/- The document's answer: a list with one thing put in; a new row, new paths. append of one element, in the forms that the walks use. The document's answer: place (of a path, which is spoken of from now on). What a net is, without memory: for each replica its count and its files, by rising paths; what the calls make of it. Records in a text: what the document's reader takes, and that it takes it. -/
import Derived.Test.YtaelaldmibgibaaGreatDoorU05
import Derived.Test.YtaelaldmibgibaaGreatDoorU01

set_option linter.unusedVariables false
set_option linter.unusedSimpArgs false

namespace Go.Proofs.YtaelaldmibgibaaGreatDoor
open Go.RowKit

/-- the first k of a list, with x put in at a place, once it is passed -/
def ins {α : Type} (a : Nat) (x : α) (l : List α) (k : Nat) : List α := if k ≤ a then l.take k else l.take a ++ x :: (l.take k).drop a
theorem ins_zero {α : Type} (a : Nat) (x : α) (l : List α) : ins a x l 0 = [] := by simp [ins]
theorem ins_lt {α : Type} (a : Nat) (x : α) (l : List α) (k : Nat) (y : α) (h : k < a) (hy : l[k]? = some y) : ins a x l (k + 1) = ins a x l k ++ [y] := by
  obtain ⟨hk, rfl⟩ := List.getElem?_eq_some_iff.1 hy
  unfold ins
  rw [if_pos (by omega), if_pos (by omega), List.take_succ_eq_append_getElem hk]
theorem ins_at {α : Type} (a : Nat) (x : α) (l : List α) (y : α) (hy : l[a]? = some y) : ins a x l (a + 1) = ins a x l a ++ [x] ++ [y] := by
  obtain ⟨hk, rfl⟩ := List.getElem?_eq_some_iff.1 hy
  unfold ins
  rw [if_neg (by omega), if_pos (by omega), List.take_succ_eq_append_getElem hk, List.drop_append]
  have e1 : List.drop a (List.take a l) = [] := List.drop_of_length_le (List.length_take_le _ _)
  have e2 : (List.take a l).length = a := by rw [List.length_take]; omega
  rw [e1, e2]
  simp
theorem ins_gt {α : Type} (a : Nat) (x : α) (l : List α) (k : Nat) (y : α) (h : a < k) (hy : l[k]? = some y) : ins a x l (k + 1) = ins a x l k ++ [y] := by
  obtain ⟨hk, rfl⟩ := List.getElem?_eq_some_iff.1 hy
  unfold ins
  rw [if_neg (by omega), if_neg (by omega), List.take_succ_eq_append_getElem hk, List.drop_append]
  have e2 : a - (List.take k l).length = 0 := by rw [List.length_take]; omega
  rw [e2]
  simp
theorem ins_end {α : Type} (a : Nat) (x : α) (l : List α) (h : a < l.length) : ins a x l l.length = l.take a ++ x :: l.drop a := by
  unfold ins
  rw [if_neg (by omega), List.take_length]
theorem ins_len {α : Type} (l : List α) (x : α) : ins l.length x l l.length ++ [x] = l.take l.length ++ x :: l.drop l.length := by
  unfold ins
  rw [if_pos (by omega)]
  simp

theorem RefRep.setPaths {w : World} {b : Nat} {ρ : Nat → Nat × Nat} {S : RS} (h : RefRep w b ρ S) (pv : Value) (ps : List ByteArray) (hp : w.ownsRow 0 9 1 pv ps.length (svs ps)) (hr : role ρ pv (2, 0)) :
    RefRep (w.setCell ⟨b, 1, none⟩ pv) b ρ { S with paths := ps, pv := pv } := by
  have hρ := h.rb
  refine { net := ?_, n1 := h.n1, n6 := h.n6, p := ownsRow_far hp hr hρ (by simp), c := ownsRow_far h.c h.rc hρ (by simp), s := ownsRow_far h.s h.rs hρ (by simp), com := ?_, row := ?_, sp := ?_, rb := h.rb, rp := hr, rc := h.rc, rs := h.rs, lt := ?_ }
  · have := heap_setCell_same w b 1 _ _ pv h.net
    simpa using this
  · intro r' y hy
    have q := h.com r' y hy
    exact ⟨ownsRow_far q.1 q.2.2 hρ (by simp), q.2⟩
  · intro r' y hy
    exact ⟨ownsRow_far (h.row r' y hy).1 (h.row r' y hy).2 hρ (by simp), (h.row r' y hy).2⟩
  · intro r' y hy s hs
    exact (h.sp r' y hy s hs).far hρ (by simp) (by simp)
  · intro k hk
    rw [size_setCell]; exact h.lt k hk

theorem RefRep.setRow {w : World} {b : Nat} {ρ : Nat → Nat × Nat} {S : RS} (h : RefRep w b ρ S) (sg sc r : Nat) (es : S.sv = .slice (some ⟨sg, 0, none⟩) S.n sc) (hrn : r < S.n) (v : Value) (l : List SP)
    (hv : w.ownsRow 0 117 6 v l.length (spv l)) (hr : role ρ v (5, r)) (hsp : ∀ s ∈ l, SpOk w ρ S.n r s) :
    RefRep (w.setCell ⟨sg, r, none⟩ v) b ρ { S with rows := S.rows.set r (v, l) } := by
  have hρ : ρ sg = (8, 0) := h.rs sg (by rw [es]; rfl)
  have hrl : r < S.rows.length := by have := h.rowl; omega
  refine { net := ?_, n1 := h.n1, n6 := h.n6, p := ownsRow_far h.p h.rp hρ (by simp), c := ownsRow_far h.c h.rc hρ (by simp), s := ?_, com := ?_, row := ?_, sp := ?_, rb := h.rb, rp := h.rp, rc := h.rc, rs := h.rs, lt := ?_ }
  · rw [heap_set_other (by simp only; intro e; rw [← e, h.rb] at hρ; simp at hρ)]; exact h.net
  · simp only [List.map_set]
    have hs := h.s
    rw [es] at hs ⊢
    exact (World.ownsRow.stored hs r v).1
  · intro r' y hy
    have q := h.com r' y hy
    exact ⟨ownsRow_far q.1 q.2.2 hρ (by simp), q.2⟩
  · intro r' y hy
    by_cases e : r' = r
    · subst e
      simp [hrl] at hy
      subst hy
      exact ⟨ownsRow_far hv hr hρ (by simp), hr⟩
    · rw [List.getElem?_set_ne (Ne.symm e)] at hy
      exact ⟨ownsRow_far (h.row r' y hy).1 (h.row r' y hy).2 hρ (by simp), (h.row r' y hy).2⟩
  · intro r' y hy t ht
    by_cases e : r' = r
    · subst e
      simp [hrl] at hy
      subst hy
      exact (hsp t ht).far hρ (by simp) (by simp)
    · rw [List.getElem?_set_ne (Ne.symm e)] at hy
      exact (h.sp r' y hy t ht).far hρ (by simp) (by simp)
  · intro k hk
    rw [size_setCell]; exact h.lt k hk

end Go.Proofs.YtaelaldmibgibaaGreatDoor

namespace Go.Proofs.YtaelaldmibgibaaGreatDoor
open Go.RowKit

theorem info_Spot : (Tryz.prog.info? 117).map (fun i => (i.zero, i.size, i.bytes)) = some (some (.agg #[.bool false, .string ⟨#[]⟩, .int .i64 0, .int .i64 0, .slice none 0 0, .slice none 0 0]), 6, 88) := by kernel_rfl

section
variable {ops : Array Oper} {rest : List Oper} {o : Oper} {a : Act} {Q : Exit → Act → World → Prop} (w : World)

/-- l = append(l, y), of strings; y lies in a block of its own -/
theorem app_str (hgd : o.guard = none) (s x : Operand) (ho : o.op = .call { callee := .builtin .append, args := #[s, x], argTypes := #[25, 25] }) (base : Nat) (v : Value) (n : Nat) (xs : List Value) (hs : a.eval s = v) (hown : w.ownsRow base 9 1 v n xs)
    (k : Nat) (y : ByteArray) (hx : a.eval x = .slice (some ⟨k, 0, none⟩) 1 1) (hc : w.cell? ⟨k, 0, none⟩ = some (.string y)) (hn : n ≤ 1000000000000) (hb : base ≤ w.heap.size)
    (h : ∀ g cap w1, w1.ownsRow base 9 1 (.slice (some ⟨g, 0, none⟩) (n + 1) cap) (n + 1) (xs ++ [.string y]) → w.grownBy w1 v.ownBlock → (v.ownBlock = some g ∨ g = w.heap.size) → g < w1.heap.size → wpList Tryz.prog ops Q rest (a.put o.dst (.slice (some ⟨g, 0, none⟩) (n + 1) cap)) w1) :
    wpList Tryz.prog ops Q (o :: rest) a w := by
  obtain ⟨i0, hi, hz0, hz1, hz2⟩ := info_parts info_string
  refine wpList_append_lies w hgd s x 25 ho base 9 i0 _ 1 16 Tryz.underlying25 hi hz0 hz1 hz2 rfl (by decide) v n xs hs hown ⟨k, 0, none⟩ 1 1 [.string y] hx rfl ?_ ?_ (by omega) (by unfold maxLen; omega) (by omega) hb _ rfl h
  · intro j u hj
    match j, hj with
    | 0, hj => simp at hj; subst hj; simpa [Addr.add] using hc
  · intro u hu; simp at hu; subst hu; rfl

/-- l = append(l, y), of spots -/
theorem app_spot (hgd : o.guard = none) (s x : Operand) (ho : o.op = .call { callee := .builtin .append, args := #[s, x], argTypes := #[112, 112] }) (base : Nat) (v : Value) (n : Nat) (xs : List Value) (hs : a.eval s = v) (hown : w.ownsRow base 117 6 v n xs)
    (k : Nat) (y0 : Bool) (y1 : ByteArray) (y2 y3 : Int) (a4 a5 : Option Addr) (n4 n5 c4 c5 : Nat) (hx : a.eval x = .slice (some ⟨k, 0, none⟩) 1 1)
    (hc : w.heap[k]? = some (.cells #[.bool y0, .string y1, .int .i64 y2, .int .i64 y3, .slice a4 n4 c4, .slice a5 n5 c5] 117)) (hn : n ≤ 1000000000000) (hb : base ≤ w.heap.size)
    (h : ∀ g cap w1, w1.ownsRow base 117 6 (.slice (some ⟨g, 0, none⟩) (n + 1) cap) (n + 1) (xs ++ [.bool y0, .string y1, .int .i64 y2, .int .i64 y3, .slice a4 n4 c4, .slice a5 n5 c5]) → w.grownBy w1 v.ownBlock → (v.ownBlock = some g ∨ g = w.heap.size) → g < w1.heap.size → wpList Tryz.prog ops Q rest (a.put o.dst (.slice (some ⟨g, 0, none⟩) (n + 1) cap)) w1) :
    wpList Tryz.prog ops Q (o :: rest) a w := by
  obtain ⟨i0, hi, hz0, hz1, hz2⟩ := info_parts info_Spot
  refine wpList_append_lies w hgd s x 112 ho base 117 i0 _ 6 88 Tryz.underlying112 hi hz0 hz1 hz2 rfl (by decide) v n xs hs hown ⟨k, 0, none⟩ 1 1 _ hx rfl ?_ ?_ (by omega) (by unfold maxLen; omega) (by omega) hb _ rfl h
  · exact World.news_of_block hc
  · intro u hu; simp at hu; rcases hu with rfl | rfl | rfl | rfl | rfl | rfl <;> rfl

end

/-- behind such an append: what lies in other blocks -/
theorem grown_below {w W w1 : World} {v : Value} (hb : Below w.heap.size w W) (hg : W.grownBy w1 v.ownBlock) (hv : ∀ k, v.ownBlock = some k → w.heap.size ≤ k) : Below w.heap.size w w1 :=
  hb.grown hg hb.size hv

end Go.Proofs.YtaelaldmibgibaaGreatDoor

namespace Go.Proofs.YtaelaldmibgibaaGreatDoor
open Go.RowKit

/-- Go's '<' and '==' on strings -/
def slt (a b : ByteArray) : Bool := Op.bytesLess a.toList b.toList
def seq (a b : ByteArray) : Bool := a.toList == b.toList
theorem seq_iff (a b : ByteArray) : seq a b = true ↔ a = b := by
  unfold seq
  rw [beq_iff_eq, ByteArray.toList_eq, ByteArray.toList_eq]
  constructor
  · intro h
    cases a; cases b
    simp only [ByteArray.mk.injEq]
    exact Array.toList_inj.1 h
  · rintro rfl; rfl

/-- the place of a path: how many come ahead of it -/
def atOf (ps : List ByteArray) (s : ByteArray) : Nat := (ps.takeWhile (slt · s)).length
theorem atOf_eq (ps : List ByteArray) (s : ByteArray) (k : Nat) (hk : k ≤ ps.length) (hall : ∀ q ∈ ps.take k, slt q s = true) (hend : ∀ q, ps[k]? = some q → slt q s = false) : atOf ps s = k := by
  unfold atOf
  induction ps generalizing k with
  | nil => simp at hk; subst hk; rfl
  | cons p ps ih =>
    cases k with
    | zero =>
      have := hend p (by simp)
      simp [this]
    | succ k =>
      have h1 := hall p (by simp)
      rw [List.takeWhile_cons, if_pos h1, List.length_cons, ih k (by simpa using hk) (fun q hq => hall q (by simp [hq])) (fun q hq => hend q (by simpa using hq))]

/-- a row of strings, its cells -/
theorem strRow_form {w : World} {v : Value} {l : List ByteArray} {base : Nat} (h : w.ownsRow base 9 1 v l.length (svs l)) :
    l.length ≤ maxLen ∧ ∃ a cap, v = .slice a l.length cap ∧ (∀ k s, l[k]? = some s → ∃ g, a = some ⟨g, 0, none⟩ ∧ g < w.heap.size ∧ w.cell? ⟨g, k, none⟩ = some (.string s)) := by
  rcases h.2 with ⟨rfl, h0⟩ | ⟨g, cap, cur, rfl, _, hg, hc, hm, _⟩
  · refine ⟨by omega, none, 0, by rw [h0], fun k s hk => ?_⟩
    have := (List.getElem?_eq_some_iff.1 hk).1
    omega
  · refine ⟨by omega, some ⟨g, 0, none⟩, cap, rfl, fun k s hk => ⟨g, rfl, (Array.getElem?_eq_some_iff.1 hg).1, ?_⟩⟩
    obtain ⟨hk', e⟩ := List.getElem?_eq_some_iff.1 hk
    rw [World.ownsRow.cellAt h k (by omega), svs_get l k hk', List.getD_eq_getElem?_getD, hk]
    rfl

/-- the walk along the paths stops at the path's place -/
theorem at_stop {ps : List ByteArray} {s : ByteArray} {k : Nat} (hk : k ≤ ps.length) (ha : ∀ q ∈ ps.take k, slt q s = true) (hend : ∀ q, ps[k]? = some q → slt q s = false) : k = atOf ps s := (atOf_eq ps s k hk ha hend).symm
theorem all_take_snoc {ps : List ByteArray} {s p : ByteArray} {k : Nat} (ha : ∀ q ∈ ps.take k, slt q s = true) (hp : ps[k]? = some p) (hl : slt p s = true) : ∀ q ∈ ps.take (k + 1), slt q s = true := by
  obtain ⟨hk, rfl⟩ := List.getElem?_eq_some_iff.1 hp
  rw [List.take_succ_eq_append_getElem hk]
  intro q hq
  rw [List.mem_append] at hq
  rcases hq with hq | hq
  · exact ha q hq
  · simp at hq; subst hq; exact hl

set_option maxHeartbeats 600000 in
/-- the path is there already -/
theorem place_old (b : Nat) (s : ByteArray) (ρ : Nat → Nat × Nat) (S : RS) (w : World) (h : RefRep w b ρ S) (hin : S.paths[atOf S.paths s]? = some s) :
    Calls Tryz.prog 56 #[.pointer (some ⟨b, 0, none⟩), .string s] w fun e w' => e = .returned (.int .i64 (atOf S.paths s)) ∧ w' = w := by
  obtain ⟨hml, a, cap, ep, hcp⟩ := strRow_form h.p
  have h1 := h.c1
  rw [ep] at h1
  have HC := hide hcp
  unfold maxLen at hml
  clear hcp ep
  have HI := hide hin
  clear hin h
  go_enter Tryz.func56, Tryz.ntmps56
  go_wp2
  go_loop [5] (fun i => ∃ k : Nat, k ≤ S.paths.length ∧ i = .int .i64 k ∧ Hid (∀ q ∈ S.paths.take k, slt q s = true)) (fun i => S.paths.length - (intOf i).toNat)
  case atStart => exact ⟨0, Nat.zero_le _, rfl, by unfold Hid; simp⟩
  case round =>
    obtain ⟨k, hk, rfl, ha⟩ := hrel
    by_cases hlt : k < S.paths.length
    · obtain ⟨p, hp⟩ : ∃ p, S.paths[k]? = some p := ⟨S.paths[k], List.getElem?_eq_getElem hlt⟩
      obtain ⟨g, rfl, hg, hcell⟩ := HC.out k p hp
      cases hb : Op.bytesLess p.toList s.toList with
      | true =>
        have T := hide (all_take_snoc ha.out hp hb)
        clear hp
        go_wp2
        go_round
        case rel => exact ⟨k + 1, by omega, by go_num, T⟩
        case measure => simp [intOf]; omega
      | false =>
        have hk' := at_stop hk ha.out (fun q hq => by rw [hp] at hq; simp at hq; subst hq; exact hb)
        have hps : p = s := by
          have := HI.out
          rw [← hk', hp] at this
          simpa using this
        have hbe : (p.toList == s.toList) = true := (seq_iff p s).2 hps
        have HK := hide hk'
        clear hp hk' hps
        go_wp2
        go_ret
        exact ⟨ret_int (by rw [← HK.out]), rfl⟩
    · have hk' := at_stop hk ha.out (fun q hq => by have := (List.getElem?_eq_some_iff.1 hq).1; omega)
      have := HI.out
      rw [← hk'] at this
      have := (List.getElem?_eq_some_iff.1 this).1
      omega

/-- what is new in a row -/
structure Fresh (n : Nat) (l : List Int) (s : SP) : Prop where
  there : s.there = false
  text : s.text = ⟨#[]⟩
  by_ : s.by_ = 0
  num : s.num = 0
  ch : s.ch = List.replicate n 0
  tm : s.tm = l

structure FrOk (W w : World) (n : Nat) (l : List Int) (v : Value) (fr : SP) : Prop where
  fresh : Fresh n l fr
  ch : w.ownsRow W.heap.size 3 1 fr.chv n (ivs (List.replicate n 0))
  tm : w.ownsRow W.heap.size 3 1 fr.tmv l.length (ivs l)
  ne : ∀ k, fr.chv.ownBlock = some k → fr.tmv.ownBlock ≠ some k
  vch : ∀ k, fr.chv.ownBlock = some k → v.ownBlock ≠ some k
  vtm : ∀ k, fr.tmv.ownBlock = some k → v.ownBlock ≠ some k

theorem FrOk.alloc {W w : World} {n : Nat} {l : List Int} {v : Value} {fr : SP} (h : FrOk W w n l v fr) (o : Obj) : FrOk W (w.alloc o) n l v fr :=
  ⟨h.fresh, h.ch.alloc o, h.tm.alloc o, h.ne, h.vch, h.vtm⟩
/-- behind an append to the row v -/
theorem FrOk.grown {W w w1 : World} {n : Nat} {l : List Int} {v : Value} {fr : SP} (h : FrOk W w n l v fr) {g m cap : Nat} (hg : w.grownBy w1 v.ownBlock) (hat : v.ownBlock = some g ∨ g = w.heap.size) : FrOk W w1 n l (.slice (some ⟨g, 0, none⟩) m cap) fr := by
  have hc := World.ownsRow.lt h.ch
  have ht := World.ownsRow.lt h.tm
  refine ⟨h.fresh, ownsRow_keep h.ch (fun k hk => hg.block k (hc k hk).2 (fun e => h.vch k hk e.symm)), ownsRow_keep h.tm (fun k hk => hg.block k (ht k hk).2 (fun e => h.vtm k hk e.symm)), h.ne, ?_, ?_⟩
  · intro k hk e
    simp [Value.ownBlock] at e
    subst e
    rcases hat with q | q
    · exact h.vch _ hk q
    · have := (hc _ hk).2; omega
  · intro k hk e
    simp [Value.ownBlock] at e
    subst e
    rcases hat with q | q
    · exact h.vtm _ hk q
    · have := (ht _ hk).2; omega

/-- a spot's six cells, written out -/
theorem RefRep.six {w : World} {b : Nat} {ρ : Nat → Nat × Nat} {S : RS} (h : RefRep w b ρ S) (r : Nat) (v : Value) (l : List SP) (hx : S.rows[r]? = some (v, l)) (k : Nat) (s : SP) (hk : l[k]? = some s) :
    ∃ g cap gc cc gt ct, v = .slice (some ⟨g, 0, none⟩) l.length cap ∧ g < w.heap.size ∧ s.chv = .slice (some ⟨gc, 0, none⟩) S.n cc ∧ s.tmv = .slice (some ⟨gt, 0, none⟩) S.n ct ∧
      w.cell? ⟨g, k * 6, none⟩ = some (.bool s.there) ∧ w.cell? ⟨g, k * 6 + 1, none⟩ = some (.string s.text) ∧ w.cell? ⟨g, k * 6 + 2, none⟩ = some (.int .i64 s.by_) ∧ w.cell? ⟨g, k * 6 + 3, none⟩ = some (.int .i64 s.num) ∧
      w.cell? ⟨g, k * 6 + 4, none⟩ = some (.slice (some ⟨gc, 0, none⟩) S.n cc) ∧ w.cell? ⟨g, k * 6 + 5, none⟩ = some (.slice (some ⟨gt, 0, none⟩) S.n ct) := by
  obtain ⟨g, cap, ev, hg, _, hc, _⟩ := spot_cells (h.row r _ hx).1 k s hk
  have hsp := h.sp r _ hx s (List.mem_of_getElem? hk)
  have hn := h.n1
  obtain ⟨gc, cc, ec, _⟩ := hsp.ch.form (by rw [hsp.chl]; omega)
  obtain ⟨gt, ct, et, _⟩ := hsp.tm.form (by rw [hsp.tml]; omega)
  rw [hsp.chl] at ec
  rw [hsp.tml] at et
  refine ⟨g, cap, gc, cc, gt, ct, ev, hg, ec, et, ?_, ?_, ?_, ?_, ?_, ?_⟩
  · simpa [SP.cells] using hc 0 (by omega)
  · simpa [SP.cells] using hc 1 (by omega)
  · simpa [SP.cells] using hc 2 (by omega)
  · simpa [SP.cells] using hc 3 (by omega)
  · rw [← ec]; simpa [SP.cells] using hc 4 (by omega)
  · rw [← et]; simpa [SP.cells] using hc 5 (by omega)

/-- the spots that are gathered: k of them are passed -/
structure Gather (W w : World) (n at_ : Nat) (c : List Int) (l : List SP) (k : Nat) (v : Value) : Prop where
  below : Below W.heap.size W w
  low : k ≤ at_ → w.ownsRow W.heap.size 117 6 v k (spv (l.take k))
  high : at_ < k → ∃ fr, FrOk W w n c v fr ∧ w.ownsRow W.heap.size 117 6 v (k + 1) (spv (ins at_ fr l k))

theorem spv_one (s : SP) : spv [s] = s.cells := by simp [spv]
theorem Gather.start (W : World) (n at_ : Nat) (c : List Int) (l : List SP) : Gather W W n at_ c l 0 (.slice none 0 0) :=
  ⟨Below.refl _ _, fun _ => by simpa [spv] using World.ownsRow_nil W W.heap.size _ 6, fun h => by omega⟩
/-- one more, ahead of the place -/
theorem Gather.lo {W w w1 : World} {n at_ : Nat} {c : List Int} {l : List SP} {k : Nat} {v : Value} (h : Gather W w n at_ c l k v) (hk : k < at_) (s : SP) (hs : l[k]? = some s) (o : Obj) (g cap : Nat)
    (ho : w1.ownsRow W.heap.size 117 6 (.slice (some ⟨g, 0, none⟩) (k + 1) cap) (k + 1) (spv (l.take k) ++ s.cells)) (hg : (w.alloc o).grownBy w1 v.ownBlock) : Gather W w1 n at_ c l (k + 1) (.slice (some ⟨g, 0, none⟩) (k + 1) cap) := by
  have hbl : Below W.heap.size W (w.alloc o) := h.below.alloc h.below.size o
  have hown := h.low (by omega)
  refine ⟨grown_below hbl hg (fun q hq => (World.ownsRow.lt hown q hq).1), fun _ => ?_, fun q => by omega⟩
  obtain ⟨hk', rfl⟩ := List.getElem?_eq_some_iff.1 hs
  rw [List.take_succ_eq_append_getElem hk', spv_append, spv_one]
  exact ho
/-- one more, behind the place -/
theorem Gather.hi {W w w1 : World} {n at_ : Nat} {c : List Int} {l : List SP} {k : Nat} {v : Value} (hb : Below W.heap.size W w) (hk : at_ < k) (fr : SP) (hf : FrOk W w n c v fr) (hown : w.ownsRow W.heap.size 117 6 v (k + 1) (spv (ins at_ fr l k))) (s : SP) (hs : l[k]? = some s) (o : Obj) (g cap : Nat)
    (ho : w1.ownsRow W.heap.size 117 6 (.slice (some ⟨g, 0, none⟩) (k + 1 + 1) cap) (k + 1 + 1) (spv (ins at_ fr l k) ++ s.cells)) (hg : (w.alloc o).grownBy w1 v.ownBlock) (hat : v.ownBlock = some g ∨ g = (w.alloc o).heap.size) :
    Gather W w1 n at_ c l (k + 1) (.slice (some ⟨g, 0, none⟩) (k + 1 + 1) cap) := by
  refine ⟨grown_below (hb.alloc hb.size o) hg (fun q hq => (World.ownsRow.lt hown q hq).1), fun q => by omega, fun _ => ⟨fr, (hf.alloc o).grown hg hat, ?_⟩⟩
  rw [ins_gt at_ fr l k s hk hs, spv_append, spv_one]
  exact ho

end Go.Proofs.YtaelaldmibgibaaGreatDoor

namespace Go.Proofs.YtaelaldmibgibaaGreatDoor

theorem bl_irrefl (x : List UInt8) : Op.bytesLess x x = false := by
  induction x with
  | nil => rfl
  | cons a x ih => simp [Op.bytesLess, ih]
theorem bl_trans (x y z : List UInt8) (h : Op.bytesLess x y = true) (h' : Op.bytesLess y z = true) : Op.bytesLess x z = true := by
  induction x generalizing y z with
  | nil =>
    cases z with
    | nil => cases y <;> simp [Op.bytesLess] at h'
    | cons c z => rfl
  | cons a x ih =>
    cases y with
    | nil => simp [Op.bytesLess] at h
    | cons b y =>
      cases z with
      | nil => simp [Op.bytesLess] at h'
      | cons c z =>
        simp only [Op.bytesLess, Bool.or_eq_true, decide_eq_true_eq, Bool.and_eq_true, beq_iff_eq] at *
        rcases h with h | ⟨rfl, h⟩
        · rcases h' with h' | ⟨rfl, h'⟩
          · exact .inl (UInt8.lt_trans h h')
          · exact .inl h
        · rcases h' with h' | ⟨rfl, h'⟩
          · exact .inl h'
          · exact .inr ⟨rfl, ih y z h h'⟩
theorem bl_tri (x y : List UInt8) (h : Op.bytesLess x y = false) (h' : Op.bytesLess y x = false) : x = y := by
  induction x generalizing y with
  | nil =>
    cases y with
    | nil => rfl
    | cons b y => simp [Op.bytesLess] at h
  | cons a x ih =>
    cases y with
    | nil => simp [Op.bytesLess] at h'
    | cons b y =>
      simp only [Op.bytesLess, Bool.or_eq_false_iff, decide_eq_false_iff_not, Bool.and_eq_false_iff, beq_eq_false_iff_ne] at *
      have e : a = b := by
        apply UInt8.toNat_inj.1
        have h1 := h.1
        have h2 := h'.1
        rw [UInt8.lt_iff_toNat_lt] at h1 h2
        omega
      subst e
      rw [ih y (by simpa using h.2) (by simpa using h'.2)]

theorem slt_irrefl (a : ByteArray) : slt a a = false := bl_irrefl _
theorem slt_trans {a b c : ByteArray} (h : slt a b = true) (h' : slt b c = true) : slt a c = true := bl_trans _ _ _ h h'
theorem slt_asymm {a b : ByteArray} (h : slt a b = true) : slt b a = false := by
  cases e : slt b a with
  | false => rfl
  | true => rw [← slt_irrefl a]; exact (slt_trans h e).symm
theorem slt_tri {a b : ByteArray} (h : slt a b = false) (h' : slt b a = false) : a = b := by
  apply (seq_iff a b).1
  unfold seq
  rw [beq_iff_eq]
  exact bl_tri _ _ h h'
theorem slt_ne {a b : ByteArray} (h : slt a b = true) : a ≠ b := fun e => by rw [e, slt_irrefl] at h; cases h

abbrev Files := List (ByteArray × ByteArray)
/-- rising by the paths -/
def Rising (F : Files) : Prop := F.Pairwise (fun x y => slt x.1 y.1 = true)
def put (p t : ByteArray) (F : Files) : Files := F.filter (fun x => slt x.1 p) ++ (p, t) :: F.filter (fun x => slt p x.1)
def del (p : ByteArray) (F : Files) : Files := F.filter (fun x => slt x.1 p) ++ F.filter (fun x => slt p x.1)
def get (p : ByteArray) (F : Files) : Option ByteArray := (F.find? (fun x => seq x.1 p)).map (·.2)

/-- where files are parted about a path -/
structure Parts (p : ByteArray) (X M Y : Files) : Prop where
  lo : ∀ x ∈ X, slt x.1 p = true
  hi : ∀ x ∈ Y, slt p x.1 = true
  mid : ∀ x ∈ M, x.1 = p
theorem filter_all {α : Type} (f : α → Bool) (l : List α) (h : ∀ x ∈ l, f x = true) : l.filter f = l := List.filter_eq_self.2 h
theorem filter_none {α : Type} (f : α → Bool) (l : List α) (h : ∀ x ∈ l, f x = false) : l.filter f = [] := List.filter_eq_nil_iff.2 (fun x hx => by rw [h x hx]; simp)
theorem Parts.fl {p : ByteArray} {X M Y : Files} (h : Parts p X M Y) : (X ++ M ++ Y).filter (fun x => slt x.1 p) = X := by
  rw [List.filter_append, List.filter_append, filter_all _ X h.lo, filter_none _ M (fun x hx => by rw [h.mid x hx]; exact slt_irrefl p), filter_none _ Y (fun x hx => slt_asymm (h.hi x hx))]
  simp
theorem Parts.fr {p : ByteArray} {X M Y : Files} (h : Parts p X M Y) : (X ++ M ++ Y).filter (fun x => slt p x.1) = Y := by
  rw [List.filter_append, List.filter_append, filter_all _ Y h.hi, filter_none _ M (fun x hx => by rw [h.mid x hx]; exact slt_irrefl p), filter_none _ X (fun x hx => slt_asymm (h.lo x hx))]
  simp
theorem Parts.put {p t : ByteArray} {X M Y : Files} (h : Parts p X M Y) : put p t (X ++ M ++ Y) = X ++ (p, t) :: Y := by
  unfold Go.Proofs.YtaelaldmibgibaaGreatDoor.put; rw [h.fl, h.fr]
theorem Parts.del {p : ByteArray} {X M Y : Files} (h : Parts p X M Y) : del p (X ++ M ++ Y) = X ++ Y := by
  unfold Go.Proofs.YtaelaldmibgibaaGreatDoor.del; rw [h.fl, h.fr]
theorem Parts.get {p : ByteArray} {X M Y : Files} (h : Parts p X M Y) : get p (X ++ M ++ Y) = M.head?.map (·.2) := by
  unfold Go.Proofs.YtaelaldmibgibaaGreatDoor.get
  have hX : X.find? (fun x => seq x.1 p) = none := List.find?_eq_none.2 (fun x hx hs => slt_ne (h.lo x hx) ((seq_iff _ _).1 hs))
  have hY : Y.find? (fun x => seq x.1 p) = none := List.find?_eq_none.2 (fun x hx hs => slt_ne (h.hi x hx) ((seq_iff _ _).1 hs).symm)
  rw [List.find?_append, List.find?_append, hX, hY]
  cases M with
  | nil => rfl
  | cons m M =>
    have := (seq_iff m.1 p).2 (h.mid m (by simp))
    simp [this]

/-- a net -/
structure Abs where
  n : Nat
  F : Nat → Files
  c : Nat → Int

def Abs.set (A : Abs) (r : Nat) (F : Files) (c : Int) : Abs := { A with F := fun q => if q = r then F else A.F q, c := fun q => if q = r then c else A.c q }
/-- is a replica asked wrongly? -/
def Abs.out (A : Abs) (r : Int) : Bool := decide (r < 0 ∨ (A.n : Int) ≤ r)

def Abs.writeE (A : Abs) (r : Int) (p t : ByteArray) : Int :=
  if A.out r = true then 1 else if pathOk p = false then 2 else if 60 < t.size then 3
  else if 1000000000 ≤ A.c r.toNat ∨ (get p (A.F r.toNat) = none ∧ 20 ≤ (A.F r.toNat).length) then 5 else 0
def Abs.write (A : Abs) (r : Int) (p t : ByteArray) : Abs :=
  if A.writeE r p t = 0 then A.set r.toNat (put p t (A.F r.toNat)) (A.c r.toNat + 1) else A
def Abs.removeE (A : Abs) (r : Int) (p : ByteArray) : Int :=
  if A.out r = true then 1 else if pathOk p = false then 2 else if get p (A.F r.toNat) = none then 4
  else if 1000000000 ≤ A.c r.toNat then 5 else 0
def Abs.remove (A : Abs) (r : Int) (p : ByteArray) : Abs :=
  if A.removeE r p = 0 then A.set r.toNat (del p (A.F r.toNat)) (A.c r.toNat + 1) else A
def Abs.readE (A : Abs) (r : Int) (p : ByteArray) : Int :=
  if A.out r = true then 1 else if pathOk p = false then 2 else if get p (A.F r.toNat) = none then 4 else 0
def Abs.readT (A : Abs) (r : Int) (p : ByteArray) : ByteArray :=
  if A.readE r p = 0 then (get p (A.F r.toNat)).getD ⟨#[]⟩ else ⟨#[]⟩

end Go.Proofs.YtaelaldmibgibaaGreatDoor

namespace Go.Proofs.YtaelaldmibgibaaGreatDoor
open Go.Lib

def bs (p : ByteArray) : Bs := p.data.toList
theorem bs_len (p : ByteArray) : (bs p).length = p.size := by unfold bs; rw [Array.length_toList]; rfl
theorem bs_inj {p q : ByteArray} (h : bs p = bs q) : p = q := by
  obtain ⟨⟨l⟩⟩ := p
  obtain ⟨⟨m⟩⟩ := q
  have : l = m := h
  rw [this]
theorem bs_extract (s : ByteArray) (a b : Nat) : bs (s.extract a b) = (rest s a).take (b - a) := by
  have h := extract_toList s a b
  have hp : (s.extract a b).toList = (s.extract a b).data.toList := by generalize s.extract a b = p; obtain ⟨⟨l⟩⟩ := p; simp
  rw [hp] at h
  exact h
theorem wordRun_bounds (s : ByteArray) (f : Nat) : ∀ a, a ≤ s.size → a ≤ wordRun s f a ∧ wordRun s f a ≤ s.size := by
  induction f with
  | zero => intro a h; exact ⟨Nat.le_refl _, h⟩
  | succ f ih =>
    intro a h
    rw [wordRun]
    split
    · rename_i h1
      split
      · have := ih (a + 1) (by omega); omega
      · omega
    · omega
theorem path_got (s : ByteArray) (a : Nat) (ha : a ≤ s.size) : Got s (a, false) (bs (pathText s a)) (pathAt s a, false) := by
  obtain ⟨h1, h2⟩ := wordRun_bounds s 13 a ha
  have hl := rest_len s a
  have e : bs (pathText s a) = (rest s a).take (pathAt s a - a) := bs_extract s a _
  have hz : (bs (pathText s a)).length = pathAt s a - a := by
    rw [e, List.length_take, hl]
    unfold pathAt
    omega
  refine ⟨rfl, ?_, ?_⟩
  · rw [hz]
    unfold pathAt
    simp only [Prod.mk.injEq, and_true]
    omega
  · show rest s a = _ ++ rest s (a + (bs (pathText s a)).length)
    rw [← rest_drop, hz, e, List.take_append_drop]
theorem wordRun_of (s : ByteArray) (t : Bs) : ∀ f a R, (∀ c ∈ t, c.toNat ≠ 32) → t.length < f → rest s a = t ++ 32 :: R → wordRun s f a = a + t.length := by
  induction t with
  | nil =>
    intro f a R _ hf e
    refine wordRun_end s f a fun h _ => ?_
    rw [List.nil_append, rest_at s a h] at e
    rw [show s.data.getD a 0 = s[a] from (Array.getElem_eq_getD (h := h) 0).symm, (List.cons.inj e).1]
    rfl
  | cons c t ih =>
    intro f a R hc hf e
    have h : a < s.size := rest_lt (by rw [e]; simp)
    rw [rest_at s a h] at e
    obtain ⟨e1, e2⟩ := List.cons.inj e
    cases f with
    | zero => simp at hf
    | succ f =>
      rw [wordRun_go s f a h (by rw [e1]; exact hc c (by simp)), ih f (a + 1) R (fun x hx => hc x (by simp [hx])) (by simpa using hf) e2]
      simp only [List.length_cons]
      omega
theorem pathByte_ne (c : UInt8) (h : pathByte c = true) : c.toNat ≠ 32 ∧ c.toNat ≠ 10 := by
  constructor
  · intro e
    have : c = 32 := UInt8.toNat_inj.1 e
    subst this
    cases h
  · intro e
    have : c = 10 := UInt8.toNat_inj.1 e
    subst this
    cases h
theorem path_of (s : ByteArray) (a : Nat) (p : ByteArray) (R : Bs) (hp : pathOk p = true) (e : rest s a = bs p ++ 32 :: R) : pathText s a = p ∧ pathAt s a = a + (bs p).length := by
  unfold pathOk at hp
  simp only [Bool.and_eq_true, decide_eq_true_eq, List.all_eq_true] at hp
  have hl := bs_len p
  have e1 : pathAt s a = a + (bs p).length := wordRun_of s (bs p) 13 a R (fun c hc => (pathByte_ne c (hp.2 c hc)).1) (by omega) e
  refine ⟨bs_inj ?_, e1⟩
  unfold pathText
  rw [bs_extract, e1, show a + (bs p).length - a = (bs p).length by omega, e, List.take_left]

theorem gaps_eq (s : ByteArray) (f : Nat) : ∀ m, gaps s f m = (((rest s m).take f).takeWhile (fun c => c != 10)).count 32 := by
  induction f with
  | zero => intro m; simp [gaps]
  | succ f ih =>
    intro m
    rw [gaps]
    by_cases h : m < s.size
    · rw [dif_pos h, rest_at s m h, List.take_succ_cons, List.takeWhile_cons]
      by_cases q : s[m].toNat = 10
      · have : s[m] = 10 := UInt8.toNat_inj.1 q
        rw [if_pos q, this]
        simp
      · have q' : (s[m] != 10) = true := by
          rw [bne_iff_ne]
          intro e
          rw [e] at q
          exact q rfl
        rw [if_neg q, if_pos q', ih, List.count_cons]
        by_cases q2 : s[m].toNat = 32
        · have : s[m] = 32 := UInt8.toNat_inj.1 q2
          rw [if_pos q2, this]
          simp [Nat.add_comm]
        · have : (s[m] == 32) = false := by
            rw [beq_eq_false_iff_ne]
            intro e
            rw [e] at q2
            exact q2 rfl
          rw [if_neg q2, this]
          simp
    · rw [dif_neg h, rest_end s m h]
      simp
def blanks (t : Bs) : Nat := (t.takeWhile (fun c => c != 10)).count 32
theorem lineB_eq (s : ByteArray) (a : Nat) : lineB s a = decide (2 ≤ blanks (rest s a)) := by
  unfold lineB blanks
  rw [gaps_eq, List.take_of_length_le (by rw [rest_len]; exact Nat.le_refl _)]
  exact decide_eq_decide.2 (by omega)
def noNl (t : Bs) : Prop := ∀ c ∈ t, (c != 10) = true
theorem blanks_append (t R : Bs) (h : noNl t) : blanks (t ++ R) = t.count 32 + blanks R := by
  unfold blanks
  rw [List.takeWhile_append_of_pos h, List.count_append]
theorem blanks_nl (R : Bs) : blanks (10 :: R) = 0 := by simp [blanks]
theorem noNl_append {t u : Bs} (h : noNl t) (g : noNl u) : noNl (t ++ u) := fun c hc => by
  rcases List.mem_append.1 hc with q | q
  · exact h c q
  · exact g c q
theorem isD_ne (c : UInt8) (h : isD c = true) : (c != 10) = true ∧ c ≠ 32 ∧ c ≠ 44 ∧ c ≠ 58 := by
  unfold isD at h
  simp only [decide_eq_true_eq] at h
  refine ⟨?_, ?_, ?_, ?_⟩
  · rw [bne_iff_ne]; rintro rfl; exact absurd h (by decide)
  · rintro rfl; exact absurd h (by decide)
  · rintro rfl; exact absurd h (by decide)
  · rintro rfl; exact absurd h (by decide)
theorem timeT_mem (l : List Nat) (c : UInt8) (h : c ∈ timeT l) : c = 44 ∨ isD c = true := by
  have key : ∀ (L : List Bs), (∀ t ∈ L, ∀ c ∈ t, isD c = true) → ∀ c ∈ sepBy 44 L, c = 44 ∨ isD c = true := by
    intro L hL c hc
    cases L with
    | nil => simp [sepBy] at hc
    | cons x L =>
      unfold sepBy at hc
      rcases List.mem_append.1 hc with q | q
      · exact .inr (hL x (by simp) c q)
      · obtain ⟨t, ht, hct⟩ := List.mem_flatten.1 q
        obtain ⟨y, hy, rfl⟩ := List.mem_map.1 ht
        rcases List.mem_cons.1 hct with rfl | q2
        · exact .inl rfl
        · exact .inr (hL y (by simp [hy]) c q2)
  refine key (l.map decDigits) ?_ c h
  intro t ht
  obtain ⟨v, _, rfl⟩ := List.mem_map.1 ht
  exact dig_digits v
theorem timeT_plain (l : List Nat) : noNl (timeT l) ∧ (timeT l).count 32 = 0 := by
  constructor
  · intro c hc
    rcases timeT_mem l c hc with rfl | q
    · rfl
    · exact (isD_ne c q).1
  · rw [List.count_eq_zero]
    intro hc
    rcases timeT_mem l 32 hc with q | q
    · cases q
    · cases q
theorem path_plain (p : ByteArray) (h : pathOk p = true) : noNl (bs p) ∧ (bs p).count 32 = 0 := by
  unfold pathOk at h
  simp only [Bool.and_eq_true, List.all_eq_true] at h
  constructor
  · intro c hc
    have := pathByte_ne c (h.2 c hc)
    rw [bne_iff_ne]
    rintro rfl
    exact this.2 rfl
  · rw [List.count_eq_zero]
    intro hc
    exact (pathByte_ne 32 (h.2 32 hc)).1 rfl
theorem line_rec (p : ByteArray) (d : DS) (R : Bs) (hp : pathOk p = true) : 2 ≤ blanks (bs p ++ (d.T ++ R)) := by
  obtain ⟨h1, h2⟩ := path_plain p hp
  obtain ⟨h3, h4⟩ := timeT_plain d.known
  have e : bs p ++ (d.T ++ R) = (bs p ++ ([32] ++ (timeT d.known ++ [32]))) ++ ((if d.there = true then d.tail else [45, 10]) ++ R) := by simp [DS.T]
  have hn : noNl (bs p ++ ([32] ++ (timeT d.known ++ [32]))) := noNl_append h1 (noNl_append (fun c hc => by simp at hc; subst hc; rfl) (noNl_append h3 (fun c hc => by simp at hc; subst hc; rfl)))
  rw [e, blanks_append _ _ hn]
  simp only [List.count_append]
  have : List.count (32 : UInt8) [32] = 1 := rfl
  omega

/-- one record: its path, and what is behind it -/
def recS (s : ByteArray) (n : Nat) (x : Nat × Bool) : SpR := spotS s n (pathAt s x.1, x.2 || !pathOk (pathText s x.1))
abbrev Rds := List (ByteArray × SpR)
/-- is the path not behind the last one? -/
def notBehind (L : Rds) (p : ByteArray) : Bool := match L.getLast? with
  | none => false
  | some y => !slt y.1 p
def recsS (s : ByteArray) (n : Nat) : Nat → Nat × Bool → Rds → (Nat × Bool) × Rds
  | 0, x, L => (x, L)
  | f + 1, x, L => if lineB s x.1 = true ∧ x.2 = false then recsS s n f ((recS s n x).st.1, (recS s n x).st.2 || notBehind L (pathText s x.1)) (L ++ [(pathText s x.1, recS s n x)]) else (x, L)
theorem recsS_no (s : ByteArray) (n f : Nat) (a : Nat) (L : Rds) : recsS s n f (a, true) L = ((a, true), L) := by
  cases f with
  | zero => rfl
  | succ f => rw [recsS, if_neg (by simp)]

abbrev Drs := List (ByteArray × DS)
def drsT (D : Drs) : Bs := (D.map (fun r => bs r.1 ++ r.2.T)).flatten
def isDrs (L : Rds) (D : Drs) : Prop := L.map (·.1) = D.map (·.1) ∧ ∀ (i : Nat) a b, L[i]? = some a → D[i]? = some b → a.2.is b.2
structure okDrs (n : Nat) (D : Drs) : Prop where
  paths : ∀ r ∈ D, pathOk r.1 = true
  oks : ∀ r ∈ D, r.2.ok n
  rise : D.Pairwise (fun x y => slt x.1 y.1 = true)
theorem drsT_snoc (D : Drs) (p : ByteArray) (d : DS) : drsT (D ++ [(p, d)]) = drsT D ++ (bs p ++ d.T) := by simp [drsT]
theorem drsT_cons (D : Drs) (p : ByteArray) (d : DS) : drsT ((p, d) :: D) = bs p ++ (d.T ++ drsT D) := by simp [drsT]
theorem spotS_no (s : ByteArray) (n : Nat) (x : Nat × Bool) (h : (spotS s n x).st.2 = false) (hx : x.1 ≤ s.size) : x.2 = false := by
  obtain ⟨d, _, _, g⟩ := spot_got s n x hx h
  exact g.1
theorem rec_got (s : ByteArray) (n : Nat) (x : Nat × Bool) (hx : x.1 ≤ s.size) (h : (recS s n x).st.2 = false) : x.2 = false ∧ pathOk (pathText s x.1) = true ∧ ∃ d : DS, d.ok n ∧ (recS s n x).is d ∧ Got s x (bs (pathText s x.1) ++ d.T) (recS s n x).st := by
  have hb := wordRun_bounds s 13 x.1 hx
  have h1 := spotS_no s n _ h hb.2
  simp only [Bool.or_eq_false_iff, Bool.not_eq_false'] at h1
  have g1 := Got.pair h1.1 (path_got s x.1 hx)
  have ex : (pathAt s x.1, x.2 || !pathOk (pathText s x.1)) = (pathAt s x.1, false) := by rw [h1.1, h1.2]; rfl
  obtain ⟨d, d1, d2, d3⟩ := spot_got s n _ hb.2 h
  refine ⟨h1.1, h1.2, d, d1, d2, ?_⟩
  refine g1.trans ?_
  have : Got s (pathAt s x.1, x.2 || !pathOk (pathText s x.1)) d.T (recS s n x).st := d3
  rw [ex] at this
  exact this
theorem isDrs_snoc {L : Rds} {D : Drs} (h : isDrs L D) (p : ByteArray) (r : SpR) (d : DS) (hr : r.is d) : isDrs (L ++ [(p, r)]) (D ++ [(p, d)]) := by
  have hl : L.length = D.length := by simpa using congrArg List.length h.1
  refine ⟨by simp [h.1], ?_⟩
  intro i a b ha hb
  by_cases hi : i < L.length
  · rw [List.getElem?_append_left hi] at ha
    rw [List.getElem?_append_left (by omega)] at hb
    exact h.2 i a b ha hb
  · rw [List.getElem?_append_right (by omega)] at ha hb
    have hi2 : i - L.length = 0 := by
      by_cases q : i - L.length = 0
      · exact q
      · rw [List.getElem?_eq_none (by simp; omega)] at ha
        cases ha
    rw [hi2] at ha
    rw [← hl, hi2] at hb
    simp at ha hb
    subst ha hb
    exact hr
theorem rise_snoc {D : Drs} {p : ByteArray} {d : DS} (h : D.Pairwise (fun x y => slt x.1 y.1 = true)) (hl : ∀ y, D.getLast? = some y → slt y.1 p = true) : (D ++ [(p, d)]).Pairwise (fun x y => slt x.1 y.1 = true) := by
  rw [List.pairwise_append]
  refine ⟨h, by simp, ?_⟩
  intro a ha b hb
  simp only [List.mem_singleton] at hb
  subst hb
  have hne : D ≠ [] := fun q => by rw [q] at ha; simp at ha
  have hlast := hl (D.getLast hne) (List.getLast?_eq_some_getLast hne)
  by_cases q : a = D.getLast hne
  · rw [q]; exact hlast
  · have e : D = D.dropLast ++ [D.getLast hne] := (List.dropLast_concat_getLast hne).symm
    rw [e] at ha h
    rw [List.pairwise_append] at h
    rcases List.mem_append.1 ha with r | r
    · exact slt_trans (h.2.2 a r _ (by simp)) hlast
    · simp only [List.mem_singleton] at r
      exact absurd r q
theorem last_is {L : Rds} {D : Drs} (h : isDrs L D) {p : ByteArray} (hb : notBehind L p = false) : ∀ y, D.getLast? = some y → slt y.1 p = true := by
  intro y hy
  have e : (L.map (·.1)).getLast? = (D.map (·.1)).getLast? := by rw [h.1]
  rw [List.getLast?_map, List.getLast?_map, hy] at e
  unfold notBehind at hb
  cases hq : L.getLast? with
  | none => rw [hq] at e; cases e
  | some z =>
    rw [hq] at e hb
    simp only [Option.map_some, Option.some.injEq] at e
    simp only [Bool.not_eq_false'] at hb
    rw [← e]
    exact hb
theorem recs_got (s : ByteArray) (n : Nat) (f : Nat) : ∀ (x : Nat × Bool) (L : Rds) (D : Drs), x.1 ≤ s.size → isDrs L D → okDrs n D → (recsS s n f x L).1.2 = false → ∃ D' : Drs, isDrs (recsS s n f x L).2 (D ++ D') ∧ okDrs n (D ++ D') ∧ Got s x (drsT D') (recsS s n f x L).1 := by
  induction f with
  | zero => intro x L D _ hi ho h; exact ⟨[], by simpa [recsS] using hi, by simpa using ho, Got.refl h⟩
  | succ f ih =>
    intro x L D hx hi ho h
    rw [recsS] at h ⊢
    by_cases hc : lineB s x.1 = true ∧ x.2 = false
    · rw [if_pos hc] at h ⊢
      have hno : ((recS s n x).st.2 || notBehind L (pathText s x.1)) = false := by
        cases q : ((recS s n x).st.2 || notBehind L (pathText s x.1)) with
        | false => rfl
        | true => rw [q, recsS_no] at h; cases h
      have hno2 := hno
      simp only [Bool.or_eq_false_iff] at hno2
      obtain ⟨h1, h2, d, d1, d2, g⟩ := rec_got s n x hx hno2.1
      have ho' : okDrs n (D ++ [(pathText s x.1, d)]) := by
        refine ⟨?_, ?_, rise_snoc ho.rise (last_is hi hno2.2)⟩
        · intro r hr
          rcases List.mem_append.1 hr with q | q
          · exact ho.paths r q
          · simp only [List.mem_singleton] at q; subst q; exact h2
        · intro r hr
          rcases List.mem_append.1 hr with q | q
          · exact ho.oks r q
          · simp only [List.mem_singleton] at q; subst q; exact d1
      have est : ((recS s n x).st.1, (recS s n x).st.2 || notBehind L (pathText s x.1)) = (recS s n x).st := Prod.ext rfl (by rw [hno, hno2.1])
      rw [est] at h ⊢
      obtain ⟨D', e1, e2, e3⟩ := ih (recS s n x).st _ _ (g.le hx) (isDrs_snoc hi (pathText s x.1) (recS s n x) d d2) ho' h
      refine ⟨(pathText s x.1, d) :: D', by simpa using e1, by simpa using e2, ?_⟩
      have := g.trans e3
      rw [drsT_cons]
      simpa using this
    · rw [if_neg hc] at h ⊢
      exact ⟨[], by simpa using hi, by simpa using ho, Got.refl h⟩

end Go.Proofs.YtaelaldmibgibaaGreatDoor
