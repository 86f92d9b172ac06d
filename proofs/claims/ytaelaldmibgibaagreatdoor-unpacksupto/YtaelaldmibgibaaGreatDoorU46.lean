/- The document's Unpack at every text. The program's verdict on a text is the document's. The law Unpacks: unpack, the loop. What the row of Unpacks lists, and the memory's shape, give of Go's library. A row that bears 'leaving', from the same row without it: a call that starts no goroutine leaves none behind. -/
import Derived.Test.YtaelaldmibgibaaGreatDoorU45
import Derived.Test.YtaelaldmibgibaaGreatDoorU19
import Derived.Test.YtaelaldmibgibaaGreatDoorU30
import Derived.Test.YtaelaldmibgibaaGreatDoorU43
import Derived.Test.YtaelaldmibgibaaGreatDoorU07
import Derived.Test.YtaelaldmibgibaaGreatDoorRows
import Derived.Stop.LaidErr
import Derived.Lib.LaidTab
import Derived.LaidSub
import Derived.Maps.OwnOps
import Derived.JoinedCond

set_option linter.unusedVariables false
set_option linter.unusedSimpArgs false

namespace Go.Proofs.YtaelaldmibgibaaGreatDoor
open Go.RowKit

theorem docOk_head {s : ByteArray} (h : docOk s) : headOk s = true := by
  have q := h.1
  unfold textOk at q
  simp only [Bool.and_eq_true] at q
  exact q.1
theorem refUnpack_any (s : ByteArray) (hs : s.size ≤ 10000000) (w : World) :
    Calls Tryz.prog 28 #[.string s] w fun e w' => Ver s e ∧ Below w.heap.size w w' := by
  cases h : headOk s with
  | true => exact unpack_body s hs w h
  | false =>
    refine (unpack_head s (by omega) w h).mono ?_
    rintro e w' ⟨rfl, hb⟩
    exact ⟨Ver.no (fun hd => by rw [docOk_head hd] at h; cases h), hb⟩

end Go.Proofs.YtaelaldmibgibaaGreatDoor

namespace Go.Proofs.YtaelaldmibgibaaGreatDoor
open Go.RowKit Go.Lib

theorem getD_zero {α : Type} (l : List α) (j : Nat) (d : α) (h : l.length ≤ j) : l.getD j d = d := by
  rw [List.getD_eq_getElem?_getD, List.getElem?_eq_none h]
  rfl
theorem ints_getD (l : List Nat) (j : Nat) : (ints l).getD j 0 = lfn l j := by
  unfold ints lfn
  rw [List.getD_eq_getElem?_getD, List.getD_eq_getElem?_getD, List.getElem?_map]
  cases l[j]? <;> rfl
theorem lfn_pos (l : List Nat) (j : Nat) : 0 ≤ lfn l j := by unfold lfn; omega
theorem eqT_iff (a b : Nat → Int) : eqT a b = true ↔ ∀ j, j < 6 → a j = b j := by
  unfold eqT
  simp only [Bool.and_eq_true, beq_iff_eq]
  constructor
  · rintro ⟨h0, h1, h2, h3, h4, h5⟩ j hj
    match j, hj with
    | 0, _ => exact h0
    | 1, _ => exact h1
    | 2, _ => exact h2
    | 3, _ => exact h3
    | 4, _ => exact h4
    | 5, _ => exact h5
  · intro h
    exact ⟨h 0 (by omega), h 1 (by omega), h 2 (by omega), h 3 (by omega), h 4 (by omega), h 5 (by omega)⟩
theorem leB_iff (a b : Nat → Int) (hb : ∀ j, 0 ≤ b j) : leB a b = true ↔ ∀ j, j < 6 → a j ≤ b j := by
  unfold leB
  rw [eqT_iff]
  have h : ∀ j, gboth a b j = b j ↔ a j ≤ b j := fun j => by
    have := hb j
    unfold gboth g1 zer
    split <;> split at * <;> omega
  exact ⟨fun q j hj => (h j).1 (q j hj), fun q j hj => (h j).2 (q j hj)⟩
/-- number by number, of lists -/
theorem le_wIn (l : List Nat) (hl : l.length ≤ 6) (C : List Int) (c : Nat → Int) (hC : ∀ j, j < l.length → C.getD j 0 = c j) (hc : ∀ j, 0 ≤ c j) : leB (lfn l) c = true ↔ wIn (ints l) C := by
  rw [leB_iff _ _ hc]
  unfold wIn
  have hil : (ints l).length = l.length := by simp [ints]
  rw [hil]
  constructor
  · intro h j hj
    rw [ints_getD, hC j hj]
    exact h j (by omega)
  · intro h j _
    by_cases hj : j < l.length
    · have := h j hj
      rw [ints_getD, hC j hj] at this
      exact this
    · have e : lfn l j = 0 := by unfold lfn; rw [getD_zero _ _ _ (by omega)]; rfl
      rw [e]
      exact hc j
theorem ints_inj {a b : List Nat} (h : ints a = ints b) : a = b := by
  unfold ints at h
  exact List.map_inj_right (fun x y h => by omega) |>.1 h
theorem lfn_eq (a b : List Nat) (ha : a.length = b.length) (h6 : a.length ≤ 6) : eqT (lfn a) (lfn b) = true ↔ a = b := by
  rw [eqT_iff]
  constructor
  · intro h
    apply List.ext_getElem ha
    intro j h1 h2
    have := h j (by omega)
    unfold lfn at this
    rw [List.getD_eq_getElem?_getD, List.getD_eq_getElem?_getD, List.getElem?_eq_getElem h1, List.getElem?_eq_getElem h2] at this
    simp only [Option.getD_some] at this
    omega
  · rintro rfl j _
    rfl

section
variable {M : Mt} {m : List DR} {dr : DR}
theorem cnts_at (h : isDRs M m) (j : Nat) (hj : j < m.length) : (cntsM M).getD j 0 = cntF m j := by
  have hl := h.1
  unfold cntsM cntF
  rw [List.getD_eq_getElem?_getD, List.getElem?_map, List.getElem?_range (by omega)]
  simp only [Option.map_some, Option.getD_some]
  have e1 := List.getElem?_eq_getElem (l := M) (i := j) (by omega)
  have e2 := List.getElem?_eq_getElem (l := m) (i := j) hj
  have := (h.2 j _ _ e1 e2).1
  rw [e1, e2]
  simp only [Option.getD_some]
  rw [this, ints_getD]
theorem cntF_pos (m : List DR) (j : Nat) : 0 ≤ cntF m j := by
  unfold cntF
  split
  · exact lfn_pos _ _
  · exact Int.le_refl _
theorem isDrs_mem {L : Rds} {D : Drs} (h : isDrs L D) : (∀ x ∈ L, ∃ y ∈ D, x.1 = y.1 ∧ x.2.is y.2) ∧ (∀ y ∈ D, ∃ x ∈ L, x.1 = y.1 ∧ x.2.is y.2) := by
  have hl : L.length = D.length := by have := congrArg List.length h.1; simpa using this
  have hp : ∀ (i : Nat) a b, L[i]? = some a → D[i]? = some b → a.1 = b.1 := fun i a b ha hb => by
    have := congrArg (fun l => l[i]?) h.1
    simp only [List.getElem?_map, ha, hb, Option.map_some] at this
    exact Option.some.inj this
  constructor
  · intro x hx
    obtain ⟨i, hi⟩ := List.getElem?_of_mem hx
    have hi' := (List.getElem?_eq_some_iff.1 hi).1
    have hd := List.getElem?_eq_getElem (l := D) (i := i) (by omega)
    exact ⟨_, List.mem_of_getElem? hd, hp i _ _ hi hd, h.2 i _ _ hi hd⟩
  · intro y hy
    obtain ⟨i, hi⟩ := List.getElem?_of_mem hy
    have hi' := (List.getElem?_eq_some_iff.1 hi).1
    have hd := List.getElem?_eq_getElem (l := L) (i := i) (by omega)
    exact ⟨_, List.mem_of_getElem? hd, hp i _ _ hd hi, h.2 i _ _ hd hi⟩
theorem isDrs_files {L : Rds} {D : Drs} (h : isDrs L D) : (L.filter (·.2.there)).length = filesD D := by
  unfold filesD
  have hl : L.length = D.length := by have := congrArg List.length h.1; simpa using this
  have h2 := h.2
  clear h
  induction L generalizing D with
  | nil =>
    have : D = [] := List.length_eq_zero_iff.1 hl.symm
    rw [this]
    rfl
  | cons x L ih =>
    cases D with
    | nil => simp at hl
    | cons y D =>
      have h0 := (h2 0 x y rfl rfl).1
      have I := ih (D := D) (by simpa using hl) (fun i a b ha hb => h2 (i + 1) a b (by simpa using ha) (by simpa using hb))
      simp only [List.filter_cons, h0]
      split
      · simp [I]
      · exact I

/-- a record, by both -/
theorem may_could {n q : Nat} {x : SpR} {d : DS} {com : List Nat} (hx : x.is d) (hd : d.ok n) (hn : n ≤ 6) (hc : com.length = n) (hm : m.length = n) (hM : isDRs M m) (hq : m[q]? = some dr) (hqc : dr.com = com) :
    mayR q (cntsM M) (ints com) x = true ↔ (d.born ∧ couldB q (lfn com) (toRec d) = true) ∧ leB (lfn d.known) (cntF m) = true := by
  obtain ⟨e1, e2, e3, e4, e5, e6⟩ := hx
  have hql : q < n := by have := (List.getElem?_eq_some_iff.1 hq).1; omega
  have hC : ∀ j, j < d.known.length → (cntsM M).getD j 0 = cntF m j := fun j hj => cnts_at hM j (by rw [hd.kl] at hj; omega)
  have hcq : cntF m q = lfn com q := by unfold cntF; rw [hq]; simp only; rw [hqc]
  have w1 := le_wIn d.known (by rw [hd.kl]; exact hn) (cntsM M) (cntF m) hC (cntF_pos m)
  have gch : eqT (gboth (lfn d.chg) (lfn d.known)) (lfn d.known) = leB (lfn d.chg) (lfn d.known) := rfl
  unfold mayR couldB toRec
  simp only
  rw [e1, e3, e4, e5, e6, ints_getD, cnts_at hM q (by omega), hcq, gch]
  simp only [Bool.and_eq_true, decide_eq_true_eq, beq_iff_eq, wInD_iff]
  cases ht : d.there with
  | true =>
    obtain ⟨y1, y2, y3, y4, y5⟩ := hd.yes ht
    have w2 := le_wIn d.chg (by omega) (ints d.known) (lfn d.known) (fun j _ => ints_getD _ _) (lfn_pos _)
    have eb : (ints d.chg).getD d.by_ 0 = ((d.chg.getD d.by_ 0 : Nat) : Int) := by rw [ints_getD]; rfl
    rw [eb]
    simp only [if_true, Bool.and_eq_true, decide_eq_true_eq, wInD_iff]
    rw [← w1, ← w2]
    unfold DS.born
    constructor
    · rintro ⟨⟨a1, a2⟩, ⟨a3, a4⟩, a5⟩
      exact ⟨⟨fun _ => ⟨by omega, by omega⟩, a2, a5, by simp; omega⟩, a1⟩
    · rintro ⟨⟨a1, a2, a3, a4⟩, a5⟩
      have := a1 ht
      exact ⟨⟨a5, a2⟩, ⟨by omega, by omega⟩, a3⟩
  | false =>
    obtain ⟨y1, y2, y3, y4⟩ := hd.none ht
    have hz : leB (lfn d.chg) (lfn d.known) = true := by
      rw [leB_iff _ _ (lfn_pos _)]
      intro j _
      have : lfn d.chg j = 0 := by
        unfold lfn
        rw [y3, List.getD_eq_getElem?_getD, List.getElem?_replicate]
        split <;> rfl
      rw [this]
      exact lfn_pos _ _
    have hk := lfn_eq d.known com (by rw [hd.kl, hc]) (by rw [hd.kl]; exact hn)
    have hi : ints d.known = ints com ↔ d.known = com := ⟨ints_inj, fun e => by rw [e]⟩
    rw [hz, y2]
    rw [if_neg (by decide)]
    simp only [Bool.not_eq_true', decide_eq_false_iff_not]
    rw [← w1]
    have hb : d.born := fun q => by rw [ht] at q; cases q
    have ek : (!eqT (lfn d.known) (lfn com)) = true ↔ ¬ d.known = com := by
      rw [← hk]
      cases eqT (lfn d.known) (lfn com) <;> simp
    constructor
    · rintro ⟨⟨a1, a2⟩, a3⟩
      exact ⟨⟨hb, a2, trivial, by simp only [Bool.or_eq_true]; exact .inr (ek.2 (fun e => a3 (hi.2 e)))⟩, a1⟩
    · rintro ⟨⟨_, a2, _, a3⟩, a1⟩
      refine ⟨⟨a1, a2⟩, fun e => ?_⟩
      simp only [Bool.or_eq_true] at a3
      rcases a3 with a3 | a3
      · exact absurd a3 (by simp)
      · exact ek.1 a3 (hi.1 e)

theorem good_iff (hm : okNet m) (h : isDRs M m) : (recsOk M ∧ repsOk M) ↔ goodN m := by
  have hl := h.1
  have key : ∀ (q : Nat) a d, M[q]? = some a → m[q]? = some d → ((∀ y ∈ a.2, mayR q (cntsM M) a.1 y.2 = true) ∧ (wIn a.1 (cntsM M) ∧ (a.2.filter (·.2.there)).length ≤ 20) ↔ goodD q d ∧ inB (cntF m) d = true) := fun q a d ha hd => by
    obtain ⟨i1, i2⟩ := h.2 q a d ha hd
    have hdm := hm.oks d (List.mem_of_getElem? hd)
    have n6 := hm.n6
    obtain ⟨j1, j2⟩ := isDrs_mem i2
    have w := le_wIn d.com (by rw [hdm.cl]; exact n6) (cntsM M) (cntF m) (fun j hj => cnts_at h j (by rw [hdm.cl] at hj; exact hj)) (cntF_pos m)
    rw [i1, isDrs_files i2, ← w]
    unfold inB
    simp only [Bool.and_eq_true, List.all_eq_true]
    constructor
    · rintro ⟨a1, a2, a3⟩
      have a1' : ∀ y ∈ d.recs, (y.2.born ∧ couldB q (lfn d.com) (toRec y.2) = true) ∧ leB (lfn y.2.known) (cntF m) = true := fun y hy => by
        obtain ⟨x, hx, _, hxy⟩ := j2 y hy
        exact (may_could hxy (hdm.recs.oks y hy) n6 hdm.cl rfl h hd rfl).1 (a1 x hx)
      exact ⟨⟨fun y hy => (a1' y hy).1, a3⟩, fun y hy => (a1' y hy).2, a2⟩
    · rintro ⟨⟨a1, a3⟩, a4, a2⟩
      refine ⟨fun x hx => ?_, a2, a3⟩
      obtain ⟨y, hy, _, hxy⟩ := j1 x hx
      exact (may_could hxy (hdm.recs.oks y hy) n6 hdm.cl rfl h hd rfl).2 ⟨a1 y hy, a4 y hy⟩
  constructor
  · rintro ⟨h1, h2⟩
    have hk : ∀ (q : Nat) d, m[q]? = some d → goodD q d ∧ inB (cntF m) d = true := fun q d hd => by
      have hq := (List.getElem?_eq_some_iff.1 hd).1
      have ha := List.getElem?_eq_getElem (l := M) (i := q) (by omega)
      exact (key q _ d ha hd).1 ⟨h1 q _ ha, h2 q _ ha⟩
    refine ⟨fun q d hd => (hk q d hd).1, ?_⟩
    rw [List.all_eq_true]
    intro d hd
    obtain ⟨q, hq⟩ := List.getElem?_of_mem hd
    exact (hk q d hq).2
  · intro g
    have hk : ∀ (q : Nat) a, M[q]? = some a → (∀ y ∈ a.2, mayR q (cntsM M) a.1 y.2 = true) ∧ (wIn a.1 (cntsM M) ∧ (a.2.filter (·.2.there)).length ≤ 20) := fun q a ha => by
      have hq := (List.getElem?_eq_some_iff.1 ha).1
      have hd := List.getElem?_eq_getElem (l := m) (i := q) (by omega)
      exact (key q a _ ha hd).2 ⟨g.reps q _ hd, List.all_eq_true.1 g.ins _ (List.mem_of_getElem? hd)⟩
    exact ⟨fun q a ha => (hk q a ha).1, fun q a ha => (hk q a ha).2⟩
end

theorem docOk_net (t : ByteArray) : docOk t ↔ (netR t).isSome = true := by
  unfold docOk
  constructor
  · rintro ⟨h1, h2⟩
    obtain ⟨m, hm, _, e, hM⟩ := text_got t h1
    rw [(netR_iff t m).2 ⟨hm, e, (good_iff hm hM).1 h2⟩]
    rfl
  · intro h
    obtain ⟨m, hm⟩ := Option.isSome_iff_exists.1 h
    obtain ⟨h1, h2, h3⟩ := (netR_iff t m).1 hm
    obtain ⟨t1, _, t3⟩ := text_of t m h1 h2
    exact ⟨t1, (good_iff h1 t3).2 h3⟩

end Go.Proofs.YtaelaldmibgibaaGreatDoor

namespace Go.Proofs.YtaelaldmibgibaaGreatDoor
open Go.RowKit Go.Lib Go.Maps

theorem numU (x : Int) (w : World) : Calls Tryz.prog 27 #[.int .i64 x] w fun e w' => e = .returned (.int .i64 x) ∧ w' = w := by
  go_enter Tryz.func27, Tryz.ntmps27
  go_wp2
  go_ret
  exact ⟨rfl, rfl⟩

/-- a pair's block -/
structure Pq (w : World) (pq : Nat) : Prop where
  blk : ∃ a b, w.heap[pq]? = some (.cells #[.pointer a, .pointer b] 72 (0, 0))
theorem Pq.below {w w' : World} {pq : Nat} (h : Pq w pq) (hb : Below w.heap.size w w') : Pq w' pq := by
  obtain ⟨a, b, q⟩ := h.blk
  exact ⟨a, b, by rw [hb.block pq (Array.getElem?_eq_some_iff.1 q).1]; exact q⟩

set_option maxHeartbeats 400000 in
theorem begunU (w : World) :
    Calls Tryz.prog 11 #[.int .i64 2] w fun e w' => ∃ pq, e = .returned (.tuple #[.pointer (some ⟨pq, 0, none⟩), .bool true]) ∧ Pq w' pq ∧ w.heap.size ≤ pq ∧ Below w.heap.size w w' := by
  have C1 := hide (netNew_ok 2 w (by omega) (by omega))
  have C2 := hide (fun V => refNew_ok 2 V (by omega) (by omega))
  go_enter Tryz.func11, Tryz.ntmps11
  go_wp2_with (first | (go_at_call 25; refine C1.out.mono ?_; rintro e w1 ⟨rfl, P, hN, hlo, hb1⟩; have B1 := hide hb1; clear hN hlo hb1) | (go_at_call 26; refine (C2.out w1).mono ?_; rintro e w2 ⟨ρ, S, rfl, hR, hI, hn, hp, hl, hb2⟩; have B2 := hide (B1.out.trans (hb2.mono B1.out.size)); clear hR hI hn hp hl hb2) | (go_at_call 27; refine (numU _ _).mono ?_; rintro e w2 ⟨rfl, rfl⟩))
  go_ret2
  exact ⟨_, rfl, ⟨_, _, heap_alloc_new _ _⟩, B2.out.size, B2.out.alloc B2.out.size _⟩

/-- a store into the pair leaves the net as it is -/
theorem UNet.store {w : World} {nb pb : Nat} {rbs mbs : List Nat} {m : List DR} (h : UNet w nb pb rbs mbs m) {pq j : Nat} {v : Value} (hq : Pq w pq) (hp : pb ≠ pq) : UNet (w.setCell ⟨pq, j, none⟩ v) nb pb rbs mbs m := by
  obtain ⟨a, b, hb⟩ := hq.blk
  have hk : ∀ k, k ≠ pq → (w.setCell ⟨pq, j, none⟩ v).heap[k]? = w.heap[k]? := fun k hk => heap_set_other (by simp only; exact hk)
  have hsz : (w.setCell ⟨pq, j, none⟩ v).heap.size = w.heap.size := by simp [World.setCell]
  have hn : nb ≠ pq := fun e => by
    obtain ⟨cap, q⟩ := h.net.blk
    rw [e, hb] at q
    cases q
  refine ⟨h.net.keep (hk _ hn) (hk _ hp), h.ml, fun r rb mb d h1 h2 h3 => ?_, by rw [hsz]; exact h.lt⟩
  have hR := h.rep r rb mb d h1 h2 h3
  refine hR.keep (hk _ (fun e => ?_)) (hk _ (fun e => ?_))
  · have := hR.rep.blk
    rw [e, hb] at this
    cases this
  · obtain ⟨es, clock, q, _⟩ := hR.own
    rw [e, hb] at q
    cases q
theorem Pq.store {w : World} {pq : Nat} (h : Pq w pq) (j : Nat) (hj : j < 2) (a : Option Addr) : Pq (w.setCell ⟨pq, j, none⟩ (.pointer a)) pq := by
  obtain ⟨x, y, hb⟩ := h.blk
  have h1 := heap_setCell_same w pq j _ _ (.pointer a) hb
  match j, hj, h1 with
  | 0, _, h1 => exact ⟨a, y, by simpa using h1⟩
  | 1, _, h1 => exact ⟨x, a, by simpa using h1⟩
theorem Pq.cells {w : World} {pq : Nat} (h : Pq w pq) : ∃ a b, w.cell? ⟨pq, 0, none⟩ = some (.pointer a) ∧ w.cell? ⟨pq, 1, none⟩ = some (.pointer b) ∧ w.frozen? ⟨pq, 0, none⟩ = false ∧ w.frozen? ⟨pq, 1, none⟩ = false := by
  obtain ⟨a, b, hb⟩ := h.blk
  exact ⟨a, b, by simp [World.cell?, hb], by simp [World.cell?, hb], by simp [World.frozen?, hb], by simp [World.frozen?, hb]⟩

set_option maxHeartbeats 1000000 in
theorem unpackU (pq : Nat) (t : ByteArray) (ht : t.size ≤ 10000000) (w : World) (hq : Pq w pq) (hp8 : 8 ≤ pq) (hg : Glob w) :
    Calls Tryz.prog 12 #[.pointer (some ⟨pq, 0, none⟩), .string t] w fun e w' => e = .returned (.bool true) ∧ Pq w' pq ∧ Fr (fun k => k = pq) w w' := by
  have UX := hide (Unpack_any t ht w hg)
  have UY := hide (fun V => refUnpack_any t ht V)
  have hdn := docOk_net t
  cases hn : netR t with
  | none =>
    rw [hn] at UX hdn
    have hno : ¬ docOk t := fun q => by have := hdn.1 q; simp at this
    have UZ : Hid (∀ V, Calls Tryz.prog 28 #[.string t] V fun e w' => e = .returned (.tuple #[.pointer none, .int .i64 7]) ∧ Below V.heap.size V w') := fun V => (UY.out V).mono fun e w' q => ⟨q.1.2 hno, q.2⟩
    have HQ := hide hq
    clear hg hdn hno UY hn hq
    go_enter Tryz.func12, Tryz.ntmps12
    go_wp2_with (first
      | (go_at_call 21; refine UX.out.mono ?_; rintro e w1 ⟨rfl, hb1⟩; have H1 := hide hb1; clear hb1)
      | (go_at_call 28; refine (UZ.out _).mono ?_; rintro e w2 ⟨rfl, hb2⟩; have H2 := hide (H1.out.trans (hb2.mono H1.out.size)); clear hb2)
      | (go_at_call 27; refine (numU _ _).mono ?_; rintro e w3 ⟨rfl, rfl⟩))
    go_ret
    exact ⟨rfl, HQ.out.below H2.out, Fr.of_below H2.out⟩
  | some m =>
    obtain ⟨hm, hbt, hgn⟩ := (netR_iff t m).1 hn
    rw [hn] at UX hdn
    have hyes : docOk t := hdn.2 rfl
    have UZ : Hid (∀ V, Calls Tryz.prog 28 #[.string t] V fun e w' => (∃ tb : Nat, e = .returned (.tuple #[.pointer (some ⟨tb, 0, none⟩), .int .i64 0])) ∧ Below V.heap.size V w') := fun V => (UY.out V).mono fun e w' q => ⟨q.1.1 hyes, q.2⟩
    have hpl : (packT m).length ≤ 10000000 := by rw [← hbt, bs_len]; exact ht
    have hbl : (bodyT m).length ≤ 10000000 := by unfold packT at hpl; simp at hpl; omega
    have hrl : ∀ d ∈ m, d.recs.length ≤ 10000000 := fun d hd => by
      have h1 : d.recs.length ≤ (drsT d.recs).length := by
        have : ∀ D : Drs, D.length ≤ (drsT D).length := fun D => by
          induction D with
          | nil => simp [drsT]
          | cons y D ih =>
            obtain ⟨p, x⟩ := y
            rw [drsT_cons]
            unfold DS.T
            simp
            omega
        exact this d.recs
      have h2 : (drsT d.recs).length ≤ d.T.length := by unfold DR.T; simp; omega
      have h3 : d.T.length ≤ (repsT m).length := by
        have : ∀ l : List DR, d ∈ l → d.T.length ≤ (repsT l).length := fun l => by
          induction l with
          | nil => intro q; simp at q
          | cons z l ih =>
            intro q
            rw [repsT_cons, List.length_append]
            rcases List.mem_cons.1 q with rfl | q
            · omega
            · have := ih q; omega
        exact this m hd
      have h4 : (repsT m).length ≤ (bodyT m).length := by unfold bodyT; simp; omega
      omega
    have ePK : ofBs (packT m) = t := by rw [← hbt, ofBs_bs]
    have PK : Hid (∀ (W : World) (nb pb : Nat) (rbs mbs : List Nat), UNet W nb pb rbs mbs m → Glob W → Calls Tryz.prog 18 #[.pointer (some ⟨nb, 0, none⟩)] W fun e w' => e = .returned (.string t) ∧ Below W.heap.size W w') := fun W nb pb rbs mbs hU hG => by
      have := Pack_any nb pb rbs mbs m W hU hm hgn hrl hbl hG
      rw [ePK] at this
      exact this
    have hql : pq < w.heap.size := by obtain ⟨a, b, q⟩ := hq.blk; exact (Array.getElem?_eq_some_iff.1 q).1
    have FIN : Hid (∀ (w2 : World) (nb tb pb : Nat) (rbs mbs : List Nat), Below w.heap.size w w2 → UNet w2 nb pb rbs mbs m → w.heap.size ≤ pb →
        UNet ((w2.setCell ⟨pq, 0, none⟩ (.pointer (some ⟨nb, 0, none⟩))).setCell ⟨pq, 1, none⟩ (.pointer (some ⟨tb, 0, none⟩))) nb pb rbs mbs m ∧ Glob ((w2.setCell ⟨pq, 0, none⟩ (.pointer (some ⟨nb, 0, none⟩))).setCell ⟨pq, 1, none⟩ (.pointer (some ⟨tb, 0, none⟩))) ∧ Pq ((w2.setCell ⟨pq, 0, none⟩ (.pointer (some ⟨nb, 0, none⟩))).setCell ⟨pq, 1, none⟩ (.pointer (some ⟨tb, 0, none⟩))) pq ∧ Fr (fun k => k = pq) w ((w2.setCell ⟨pq, 0, none⟩ (.pointer (some ⟨nb, 0, none⟩))).setCell ⟨pq, 1, none⟩ (.pointer (some ⟨tb, 0, none⟩)))) := fun w2 nb tb pb rbs mbs hb2 hU hlo => by
      have q2 := hq.below hb2
      have q3 := q2.store 0 (by omega) (some ⟨nb, 0, none⟩)
      have f3 : Fr (fun k => k = pq) w ((w2.setCell ⟨pq, 0, none⟩ (.pointer (some ⟨nb, 0, none⟩))).setCell ⟨pq, 1, none⟩ (.pointer (some ⟨tb, 0, none⟩))) := Fr.setCell (p := ⟨pq, 1, none⟩) (Fr.setCell (S := fun k => k = pq) (p := ⟨pq, 0, none⟩) (Fr.of_below hb2) (.inl rfl) _) (.inl rfl) _
      exact ⟨(hU.store q2 (by omega)).store q3 (by omega), hg.fr f3 (fun k hk e => by omega), q3.store 1 (by omega) _, f3⟩
    have CE : Hid (∀ w2, Below w.heap.size w w2 → ∃ a b, w2.cell? ⟨pq, 0, none⟩ = some (.pointer a) ∧ w2.cell? ⟨pq, 1, none⟩ = some (.pointer b) ∧ w2.frozen? ⟨pq, 0, none⟩ = false ∧ w2.frozen? ⟨pq, 1, none⟩ = false) := fun w2 hb2 => (hq.below hb2).cells
    have htt : (t.toList == t.toList) = true := by simp
    clear hg hdn hyes UY hn hq hm hbt hgn hpl hbl hrl ePK
    go_enter Tryz.func12, Tryz.ntmps12
    go_wp2_with (first
      | (go_at_call 21; refine UX.out.mono ?_; rintro e w1 ⟨⟨nb, pb, rbs, mbs, rfl, hU, hlo⟩, hb1⟩; have H1 := hide hb1; have U1 := hide hU; have LO := hide hlo; clear hb1 hU hlo)
      | (go_at_call 28; refine (UZ.out _).mono ?_; rintro e w2 ⟨⟨tb, rfl⟩, hb2⟩; have H2 := hide (H1.out.trans (hb2.mono H1.out.size)); have U2 := hide (U1.out.below hb2); clear hb2; obtain ⟨xa, xb, x0, x1, z0, z1⟩ := CE.out w2 H2.out; have F3 := hide (FIN.out w2 nb tb pb rbs mbs H2.out U2.out LO.out))
      | (go_at_call 27; refine (numU _ _).mono ?_; rintro e w3 ⟨rfl, rfl⟩)
      | (go_at_call 18; refine (PK.out _ _ _ _ _ F3.out.1 F3.out.2.1).mono ?_; rintro e w5 ⟨rfl, hb5⟩; have H5 := hide hb5; clear hb5))
    go_ret
    exact ⟨rfl, F3.out.2.2.1.below H5.out, F3.out.2.2.2.trans (Fr.of_below H5.out)⟩

/-- a text of the argument in memory -/
structure TextAt (w : World) (ad : Addr) (i : Nat) (s : ByteArray) : Prop where
  lt : ad.block < w.heap.size
  c : w.cell? (ad.add i) = some (.string s)
  hs : s.size ≤ 10000000
theorem addU_block (ad : Addr) (k : Nat) : (ad.add k).block = ad.block := by unfold Addr.add; split <;> rfl

set_option maxRecDepth 100000 in
set_option maxHeartbeats 1000000 in
theorem unpacks_walk (a : Option Addr) (len cap : Nat) (w : World) (hg : Glob w) (hlen : len ≤ 1048576) (hts : ∀ i, i < len → ∃ ad s, a = some ad ∧ TextAt w ad i s) :
    Calls Tryz.prog 5 #[.slice a len cap] w fun e w' => e = .returned (.bool true) ∧ Below w.heap.size w w' := by
  have BE := hide (begunU w)
  have hz8 := hg.sz
  have GL : Hid (∀ V, Below w.heap.size w V → Glob V) := fun V hV => hg.below hV
  have TX := hide hts
  clear hg hts
  go_enter Tryz.func5, Tryz.ntmps5
  go_wp2_with (go_at_call 11; refine BE.out.mono ?_; rintro e w1 ⟨pq, rfl, hq, hlo, hb1⟩; have Q1 := hide hq; have LO := hide hlo; have H1 := hide hb1; clear hq hlo hb1)
  go_loopw [4, 5] (fun kv iv wr => kv = .bool true ∧ ∃ i : Nat, i ≤ len ∧ iv = .int .i64 i ∧ Hid (Pq wr pq) ∧ Hid (Below w.heap.size w wr)) (fun _ iv _ => len - (intOf iv).toNat)
  case atStart => exact ⟨rfl, 0, Nat.zero_le _, rfl, Q1, H1⟩
  case round =>
    obtain ⟨rfl, i, hi, rfl, hQ, hB⟩ := hrel
    clear Q1 H1 BE
    by_cases hlt : i < len
    · obtain ⟨ad, s, rfl, hT⟩ := TX.out i hlt
      have ci : wr.cell? (ad.add i) = some (.string s) := (hB.out.cell (by rw [addU_block]; exact hT.lt)).trans hT.c
      have UP := hide (unpackU pq s hT.hs wr hQ.out (by have := LO.out; omega) (GL.out wr hB.out))
      have BF : Hid (∀ w2, Fr (fun k => k = pq) wr w2 → Below w.heap.size w w2) := fun w2 hf => hB.out.trans ((hf.mono (T := fun k => w.heap.size ≤ k) (fun k _ e => by rw [e]; exact LO.out)).below hB.out.size)
      clear hT TX
      go_wp2_with (go_at_call 12; refine UP.out.mono ?_; rintro e w2 ⟨rfl, hq2, hf2⟩; have Q2 := hide hq2; have B2 := hide (BF.out w2 hf2); clear hq2 hf2)
      go_roundw
      case rel => exact ⟨rfl, i + 1, by omega, by go_num, Q2, B2⟩
      case measure => simp [intOf]; omega
    · have ei : i = len := by omega
      subst ei
      go_wp2
      go_ret
      exact ⟨rfl, hB.out⟩

end Go.Proofs.YtaelaldmibgibaaGreatDoor

namespace Go.Proofs.YtaelaldmibgibaaGreatDoor
open Go.RowKit Go.Lib

theorem gES : Tryz.prog.globalNamed "strconv.ErrSyntax" = some 2 := by kernel_rfl
theorem gESType : (Tryz.prog.globals[2]?).map (·.type) = some 136 := by kernel_rfl
theorem gER : Tryz.prog.globalNamed "strconv.ErrRange" = some 3 := by kernel_rfl
theorem gERType : (Tryz.prog.globals[3]?).map (·.type) = some 136 := by kernel_rfl
theorem cellsES : Tryz.prog.cellsOf 325 = 1 := by kernel_rfl
theorem cellsS : Tryz.prog.cellsOf 9 = 1 := by kernel_rfl
theorem starES : "*" ++ "errors.errorString" = "*errors.errorString" := by decide
theorem rowES (u : TypeId) (h : Tryz.prog.typeName? 3 u = some "*errors.errorString") : u = 323 :=
  typeName_ptr_named (nm := "errors.errorString") (by rw [starES]; kernel_rfl) (by kernel_rfl) (by decide) u (by rw [starES]; exact h)
theorem gPowType : (Tryz.prog.globals[1]?).map (·.type) = some 285 := by kernel_rfl
theorem cellsU64 : Tryz.prog.cellsOf 145 = 1 := by kernel_rfl
theorem cellsPow : Tryz.prog.cellsOf 285 = 20 := by kernel_rfl
theorem powLaid : (Rows.laid_internal_strconv_uint64pow10 : DataW Unit) = Lib.tabData .u64 Lib.pow10Tab := by kernel_rfl
theorem laidNone : (Rows.unpacksUptoRow.laid.filter fun x => x.2.handleName?.isNone) = Rows.unpacksUptoRow.laid := by kernel_rfl

theorem cell_int {P : Program} {w : World} {r : Reach} {base : Nat} {t : TypeId} {v : Value} (ht : P.underlying t = some (.int .i64)) (h : Cell.ok P w r base t v) : ∃ m, v = .int .i64 m := by
  unfold Cell.ok at h
  rw [ht] at h
  cases v with
  | int k n =>
    obtain ⟨rfl, _⟩ := h
    exact ⟨n, rfl⟩
  | _ => exact absurd h (by simp)
set_option maxRecDepth 100000 in
theorem glob_of (W : World) (hL : laidMetH Tryz.prog Rows.unpacksUptoRow.laid W) (hS : W.ShapedOpen Tryz.prog) : Glob W := by
  have h0 := (laidMetH_iff.1 hL).1
  rw [laidNone] at h0
  have h1 : laidMet Tryz.prog [("math/bits.deBruijn32tab", Rows.laid_math_bits_deBruijn32tab), ("math/bits.deBruijn64tab", Rows.laid_math_bits_deBruijn64tab), ("internal/strconv.uint64pow10", Rows.laid_internal_strconv_uint64pow10), ("unicode/utf8.acceptRanges", Rows.laid_unicode_utf8_acceptRanges), ("strconv.ErrRange", Rows.laid_strconv_ErrRange), ("strconv.ErrSyntax", Rows.laid_strconv_ErrSyntax), ("unicode/utf8.first", Rows.laid_unicode_utf8_first)] W := h0
  have hT : Lib.TabIs Tryz.prog W "internal/strconv.uint64pow10" .u64 Lib.pow10Tab := by
    have := h1.tail.tail
    rw [powLaid] at this
    exact tabIs_of_head glob_pow gPowType Tryz.underlying285 Tryz.underlying145 cellsU64 cellsPow this
  obtain ⟨a0, s0, hv0, -, -, -⟩ := laid_sentinel h1.tail.tail.tail.tail.tail gES gESType Tryz.underlying136 rowES Tryz.underlying323 Tryz.underlying325 rfl rfl Tryz.underlying9 cellsES cellsS
  obtain ⟨a1, s1, hv1, -, -, -⟩ := laid_sentinel h1.tail.tail.tail.tail gER gERType Tryz.underlying136 rowES Tryz.underlying323 Tryz.underlying325 rfl rfl Tryz.underlying9 cellsES cellsS
  have g0 : ∃ cs, W.heap[0]? = some (.cells cs 3) ∧ cs.size = 1 ∧ (Tryz.prog.buildable 3 = true → Row.ok Tryz.prog W .any 0 3 cs) := hS.1 0 #[.int .i64 0] 3 (by decide +kernel) (by kernel_rfl)
  have hz : 7 < W.heap.size := by
    have hg7 : (7 : Nat) < Tryz.prog.globals.size := by decide +kernel
    have hi : (((begin Tryz.prog (fun _ _ => 0) default).world.heap[7]?).bind Obj.row?).isSome = true := by kernel_rfl
    obtain ⟨⟨zero, t⟩, e⟩ := Option.isSome_iff_exists.1 hi
    obtain ⟨cs, hc, _⟩ := hS.1 7 zero t hg7 e
    exact (Array.getElem?_eq_some_iff.1 hc).1
  refine ⟨?_, ?_, ?_, hT, by omega⟩
  · obtain ⟨cs, hc, hsz, hok⟩ := g0
    obtain ⟨ts, ht, _, hv⟩ := hok (by kernel_rfl)
    have h1 : cs[0]? = some cs[0] := Array.getElem?_eq_getElem (by omega)
    obtain ⟨u, hu, hcell⟩ := hv 0 _ h1
    have hts : ts = [3] := by
      have : Tryz.prog.cellTypes Tryz.prog.depth 3 = some [3] := by kernel_rfl
      exact Option.some.inj (ht.symm.trans this)
    subst hts
    simp at hu
    subst hu
    obtain ⟨m, hm⟩ := cell_int Tryz.underlying3 hcell
    exact ⟨m, by simp only [World.cell?, hc]; rw [h1, hm]; rfl⟩
  · exact ⟨_, _, by have h0 := World.var?_cell gES hv0 0; simpa using h0⟩
  · exact ⟨_, _, by have h0 := World.var?_cell gER hv1 0; simpa using h0⟩

end Go.Proofs.YtaelaldmibgibaaGreatDoor

namespace Go.Proofs.YtaelaldmibgibaaGreatDoor

theorem only_of_quiet {P : Program} {m : Machine} (h : m.quiet) : m.OnlyLeaving P := by
  obtain ⟨h1, h2⟩ := h
  refine ⟨fun g hg => ⟨0, ?_⟩, h2⟩
  unfold Machine.othersDone at h1
  simp only [List.all_eq_true] at h1
  have := h1 g hg
  unfold Goroutine.LeavesIn
  revert this
  cases g.status <;> simp_all

theorem leaving_of_alone {a : Assume} {st : Option Stop.Interp} {C : Checked} {os : Os} {f : FuncId} {r : Reach} {ok : Program → World → Reach → Nat → FuncId → Input → Prop}
    {Pre : World → Array Value → Prop} {Post : World → Array Value → Value → World → Prop} {al : Machine → Prop}
    (h : ReturnsInOpen a st C os f r ok Pre Post (aloneAtReturn C.prog) al) : ReturnsInOpen a st C os f r ok Pre Post (leavingAtReturn C.prog) al := by
  obtain ⟨h1, h2, h3, h4, all⟩ := h
  refine ⟨h1, h2, h3, h4, fun w t i hf => ?_⟩
  obtain ⟨n, v, w', x1, x2, x3, x4, ⟨j, last, y1, y2, q, y3, y4⟩, x5⟩ := all w t i hf
  exact ⟨n, v, w', x1, x2, x3, x4, ⟨j, last, y1, y2, y3, only_of_quiet q, y4⟩, x5⟩

theorem holds_leaving {p : Pinned} {s : OpenSpec} {c : OpenClaim} (hstart : c.start = .entering) (hst : c.stops = []) (hag : c.again = false)
    (h : ({ c with leaving := false } : OpenClaim).holds p s) : ({ c with leaving := true } : OpenClaim).holds p s := by
  obtain ⟨w, a2, a3, a4, a5, a6, a7, a8, f, fn, g1, g2, b⟩ := h
  refine ⟨?_, a2, a3, a4, a5, a6, a7, a8, f, fn, g1, g2, ?_⟩
  · have e : ({ c with leaving := true } : OpenClaim).wf s = ({ c with leaving := false } : OpenClaim).wf s := by
      unfold OpenClaim.wf
      simp only [hag, Bool.false_and, Bool.not_false, Bool.and_true]
      rfl
    rw [e]
    exact w
  · obtain ⟨b1, b2, b3, b4, b5, b6, b7, b8, b9, b10, b11, b12, b13, b14, b15, b16, b17, b18, b19, L, b20, all⟩ := b
    refine ⟨b1, b2, b3, b4, b5, b6, b7, b8, b9, b10, b11, b12, b13, b14, b15, b16, b17, b18, b19, L, b20, fun os x y H enc inj => ?_⟩
    have A := all os x y H enc inj
    unfold OpenClaim.form at A ⊢
    simp only [hstart, hst] at A ⊢
    exact fun F => leaving_of_alone (A F)

end Go.Proofs.YtaelaldmibgibaaGreatDoor
