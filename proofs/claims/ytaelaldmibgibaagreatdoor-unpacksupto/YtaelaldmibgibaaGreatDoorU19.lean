/- The document's answer: New. The document's text: what may stand in it: counts, kept, may. The document's text: may a record that is told be so? The document's text: Unpack: the reader, the net and what was read, side by side. The document's Unpack: its first line; the replicas. -/
import Derived.Test.YtaelaldmibgibaaGreatDoorU18
import Derived.Test.YtaelaldmibgibaaGreatDoorU02
import Derived.Test.YtaelaldmibgibaaGreatDoorU05
import Derived.Test.YtaelaldmibgibaaGreatDoorU15
import Derived.Test.YtaelaldmibgibaaGreatDoorU07

set_option linter.unusedVariables false
set_option linter.unusedSimpArgs false

namespace Go.Proofs.YtaelaldmibgibaaGreatDoor
open Go.RowKit
attribute [local go_sem ↓] Go.wp_at_zero Go.wp_at_succ

theorem Part.cell {w0 w : World} {b n ci si : Nat} {ρ : Nat → Nat × Nat} {cw sw : Value} {cs : List Value} (h : Part w0 w b n ci si ρ cw sw cs) : w.cell? ⟨b, 2, none⟩ = some cw ∧ w.cell? ⟨b, 3, none⟩ = some sw ∧ w.frozen? ⟨b, 2, none⟩ = false ∧ w.frozen? ⟨b, 3, none⟩ = false ∧ b < w.heap.size :=
  ⟨by simp [World.cell?, h.net], by simp [World.cell?, h.net], by simp [World.frozen?, h.net], by simp [World.frozen?, h.net], (h.lt b (by rw [h.rb]; decide)).1⟩
/-- the net's own block behind a call and an append -/
theorem Part.net1 {w0 w wz w1 : World} {b n ci si : Nat} {ρ : Nat → Nat × Nat} {cw sw : Value} {cs : List Value} (h : Part w0 w b n ci si ρ cw sw cs) (hb : Below w.heap.size w wz) {o : Obj} (hg : (wz.alloc o).grownBy w1 cw.ownBlock) :
    w1.cell? ⟨b, 2, none⟩ = some cw ∧ w1.frozen? ⟨b, 2, none⟩ = false := by
  obtain ⟨h1, _, h2, _, h3⟩ := h.cell
  have e : w1.heap[b]? = w.heap[b]? := by
    have := hb.size
    rw [hg.block b (by simp; omega) (fun e => by have := h.rc b e.symm; rw [h.rb] at this; simp at this), Below.heap_alloc _ _ _ (by omega)]
    exact hb.block b h3
  exact ⟨(World.cell?_of_block (w := w) e).trans h1, (World.frozen?_of_block (w := w) e).trans h2⟩
theorem Part.net2 {w0 w w1 : World} {b n ci si : Nat} {ρ : Nat → Nat × Nat} {cw sw : Value} {cs : List Value} (h : Part w0 w b n ci si ρ cw sw cs) {o : Obj} (hg : (w.alloc o).grownBy w1 sw.ownBlock) :
    w1.cell? ⟨b, 3, none⟩ = some sw ∧ w1.frozen? ⟨b, 3, none⟩ = false := by
  obtain ⟨_, h1, _, h2, h3⟩ := h.cell
  have e : w1.heap[b]? = w.heap[b]? := by
    rw [hg.block b (by simp; omega) (fun e => by have := h.rs b e.symm; rw [h.rb] at this; simp at this), Below.heap_alloc _ _ _ h3]
  exact ⟨(World.cell?_of_block (w := w) e).trans h1, (World.frozen?_of_block (w := w) e).trans h2⟩
theorem Part.start (w : World) (n : Nat) : Part w (w.alloc (.cells #[.int .i64 n, .slice none 0 0, .slice none 0 0, .slice none 0 0] 103)) w.heap.size n 0 0 (fun k => if k = w.heap.size then (1, 0) else (0, 0)) (.slice none 0 0) (.slice none 0 0) [] := by
  refine ⟨(Below.refl _ _).alloc (Nat.le_refl _) _, heap_alloc_new _ _, rfl, World.ownsRow_nil _ _ _ _, World.ownsRow_nil _ _ _ _, ?_, by simp, (fun k hk => by cases hk), (fun k hk => by cases hk), ?_⟩
  · intro r v hv; simp at hv
  · intro k hk
    by_cases e : k = w.heap.size
    · subst e; simp
    · simp [e] at hk
theorem Part.drew {w0 w : World} {b n ci si : Nat} {ρ : Nat → Nat × Nat} {cw sw : Value} {cs : List Value} (h : Part w0 w b n ci si ρ cw sw cs) : Part w0 w.drew b n ci si ρ cw sw cs :=
  ⟨h.below.drew, h.net, h.len, h.c, h.s, h.com, h.rb, h.rc, h.rs, h.lt⟩

def newAbs (n : Nat) : Abs := { n := n, F := fun _ => [], c := fun _ => 0 }
theorem newInv (n : Nat) (cw sw : Value) (cs : List Value) (hl : cs.length = n) : RInv { n := n, paths := [], pv := .slice none 0 0, cv := cw, sv := sw, coms := cs.map (fun v => (v, List.replicate n 0)), rows := List.replicate n (.slice none 0 0, []) } (newAbs n) := by
  refine ⟨rfl, List.Pairwise.nil, ?_, ?_, ?_, ?_⟩
  · intro r x hx
    have := List.mem_of_getElem? hx
    rw [List.mem_replicate] at this
    obtain ⟨_, rfl⟩ := this
    rfl
  · intro r v l hx
    have := List.mem_of_getElem? hx
    rw [List.mem_replicate] at this
    obtain ⟨_, e⟩ := this
    simp at e
    obtain ⟨rfl, rfl⟩ := e
    rfl
  · intro r hr
    refine ⟨?_, Int.le_refl _⟩
    unfold RS.count
    have : r < cs.length := by simp only at hr; omega
    simp only [List.getElem?_map, List.getElem?_eq_getElem this]
    simp [newAbs, List.getD_eq_getElem?_getD, List.getElem?_replicate]
    split <;> rfl
  · intro r v l cw c hx hc s hs
    have := List.mem_of_getElem? hx
    rw [List.mem_replicate] at this
    obtain ⟨_, e⟩ := this
    simp at e
    obtain ⟨rfl, rfl⟩ := e
    cases hs

set_option maxHeartbeats 400000 in
theorem refNew_bad (n : Int) (w : World) (hn : n < 1 ∨ 6 < n) :
    Calls Tryz.prog 26 #[.int .i64 n] w fun e w' => e = .returned (.tuple #[.pointer none, .int .i64 1]) ∧ w' = w := by
  by_cases h1 : n < 1
  · have d1 : decide (n < 1) = true := by simp [h1]
    go_enter Tryz.func26, Tryz.ntmps26
    go_wp2
    go_ret2
    exact ⟨rfl, rfl⟩
  · have d1 : decide (n < 1) = false := by simp; omega
    have h2 : 6 < n := by omega
    clear hn
    go_enter Tryz.func26, Tryz.ntmps26
    go_wp2
    go_ret2
    exact ⟨rfl, rfl⟩

set_option maxRecDepth 100000 in
set_option maxHeartbeats 1000000 in
theorem refNew_ok (n : Nat) (w : World) (h1 : 1 ≤ n) (h6 : n ≤ 6) :
    Calls Tryz.prog 26 #[.int .i64 n] w fun e w' => ∃ ρ S, e = .returned (.tuple #[.pointer (some ⟨w.heap.size, 0, none⟩), .int .i64 0]) ∧ RefRep w' w.heap.size ρ S ∧ RInv S (newAbs n) ∧ S.n = n ∧ S.paths = [] ∧ (∀ k, (ρ k).1 ≠ 0 → w.heap.size ≤ k) ∧ Below w.heap.size w w' := by
  have d1 : decide ((n : Int) < 1) = false := by simp; omega
  have d2 : decide ((6 : Int) < (n : Int)) = false := by simp; omega
  have P0 := hide (Part.start w n)
  go_enter Tryz.func26, Tryz.ntmps26
  go_wp2
  clear d1 d2
  go_loopw [5] (fun iv wr => ∃ i : Nat, i ≤ n ∧ iv = .int .i64 i ∧ ∃ ρ cw sw cs, Hid (Part w wr w.heap.size n i i ρ cw sw cs)) (fun iv _ => n - (intOf iv).toNat)
  case atStart => exact ⟨0, Nat.zero_le _, rfl, _, _, _, _, P0⟩
  case round =>
    obtain ⟨i, hi, rfl, ρ, cw, sw, cs, hP⟩ := hrel
    by_cases hlt : i < n
    · obtain ⟨c2, c3, f2, f3, hbl⟩ := hP.out.cell
      have hbz := hP.out.below.size
      go_wp2_with fail
      go_region_law (first
        | (go_simp; go_at_call 49; refine (zeros_form n h1 h6 _).mono ?_; rintro e wz ⟨gz, cz, rfl, hoz, hgz, hlz, hbzr⟩; have hbzz := hide (⟨hbzr.os, hbzr.tape, hbzr.output, hbzr.size, hbzr.block⟩ : Below wr.heap.size wr wz); have z2 : wz.cell? ⟨w.heap.size, 2, none⟩ = some cw := (hbzz.out.cell (p := ⟨w.heap.size, 2, none⟩) hbl).trans c2; have hzz := hbzz.out.size; have z3 : ∀ o, (wz.alloc o).cell? ⟨w.heap.size, 2, none⟩ = some cw := fun o => (World.cell?_alloc_old wz o ⟨w.heap.size, 2, none⟩ (by simp only; omega)).trans z2; dsimp only)
        | (refine step_app_ints _ (by rfl) (.tmp 24) (.tmp 27) (by rfl) w.heap.size cw i cs (by rfl) ((ownsRow_keep hP.out.c (fun k hk => hbzz.out.block k (World.ownsRow.lt hP.out.c k hk).2)).alloc _) wz.heap.size (some ⟨gz, 0, none⟩) n cz (by rfl) (by simp) (by omega) (by simp; omega) ?_; intro g2 cp w1 ho2 hgr2 hat2 hl2; obtain ⟨e2, e3⟩ := hP.out.net1 hbzz.out hgr2))
      all_goals
        obtain ⟨ρ1, P1⟩ := hP.out.addCom hbzz.out gz cz hoz hgz hlz _ g2 cp ho2 hgr2 hat2
        obtain ⟨_, d3, _, fd3, hbl2⟩ := P1.cell
        have HP1 := hide P1
        clear P1 ho2 hgr2 hat2 hl2 e2 e3 hoz hgz hlz hbzr z2 z3 hzz c2 c3 f2 f3 hbz
        have hbz := HP1.out.below.size
        generalize hW : w1.setCell ⟨w.heap.size, 2, none⟩ (.slice (some ⟨g2, 0, none⟩) (i + 1) cp) = W at *
        clear hW
        go_wp2_with (at_builtin; refine app_spots _ rfl (.tmp 35) (.tmp 36) rfl w.heap.size _ _ _ rfl (HP1.out.s.alloc _) W.heap.size none 0 0 rfl (by simp) (by omega) (by simp; omega) ?_; intro g3 c3 w3 ho3 hgr3 hat3 hl3; obtain ⟨m2, m3⟩ := HP1.out.net2 hgr3)
        obtain ⟨ρ2, P2⟩ := HP1.out.addRow _ g3 c3 ho3 hgr3 hat3
        have HP2 := hide P2
        clear P2 ho3 hgr3 hat3 hl3 d3 fd3
        go_wp2
        go_roundw
        case rel => exact ⟨i + 1, by omega, by go_num, _, _, _, _, HP2⟩
        case measure => simp [intOf]; omega
    · have ei : i = n := by omega
      subst ei
      go_wp2
      go_ret2
      have R := hP.out.rep h1 h6
      exact ⟨ρ, _, rfl, R, newInv i cw sw cs hP.out.len, rfl, rfl, fun k hk => (hP.out.lt k hk).2, hP.out.below⟩

end Go.Proofs.YtaelaldmibgibaaGreatDoor

namespace Go.Proofs.YtaelaldmibgibaaGreatDoor
open Go.RowKit

/-- the counts of all replicas -/
def cnts (S : RS) (k : Nat) : List Int := (List.range k).map S.count
theorem cnts_succ (S : RS) (k : Nat) : cnts S (k + 1) = cnts S k ++ [S.count k] := by simp [cnts, List.range_succ]
theorem cnts_len (S : RS) (k : Nat) : (cnts S k).length = k := by simp [cnts]

set_option maxRecDepth 100000 in
set_option maxHeartbeats 1000000 in
theorem counts_any (b : Nat) (ρ : Nat → Nat × Nat) (S : RS) (w : World) (h : RefRep w b ρ S) :
    Calls Tryz.prog 59 #[.pointer (some ⟨b, 0, none⟩)] w fun e w' => ∃ v, e = .returned v ∧ w'.ownsRow w.heap.size 3 1 v S.n (ivs (cnts S S.n)) ∧ Below w.heap.size w w' := by
  obtain ⟨i0, hi, hz0, hz1, hz2⟩ := info_parts info_int
  have h6 := h.n6
  have hbl : b < w.heap.size := h.lt b (by rw [h.rb]; decide)
  have HC : Hid (∀ (wr : World) (k : Nat), Below w.heap.size w wr → k < S.n → ∃ cg cc g cap, wr.cell? ⟨b, 2, none⟩ = some (.slice (some ⟨cg, 0, none⟩) S.n cc) ∧ wr.cell? ⟨cg, k, none⟩ = some (.slice (some ⟨g, 0, none⟩) S.n cap) ∧ wr.cell? ⟨g, k, none⟩ = some (.int .i64 (S.count k))) := fun wr k hb hk => by
    obtain ⟨cg, cc, g, cap, l, ec, hc, hx, hl, _, hg, hcg, _, hcell, _⟩ := h.common k hk
    have h2 := h.c2
    rw [ec] at h2
    have hcount : S.count k = l.getD k 0 := by unfold RS.count; rw [hx]; rfl
    exact ⟨cg, cc, g, cap, (hb.cell (p := ⟨b, 2, none⟩) hbl).trans h2, (hb.cell (p := ⟨cg, k, none⟩) hcg).trans hc, by rw [hcount]; exact (hb.cell (p := ⟨g, k, none⟩) hg).trans (hcell k hk)⟩
  have H0 : Hid (∀ wr : World, Below w.heap.size w wr → wr.cell? ⟨b, 0, none⟩ = some (.int .i64 S.n)) := fun wr hb => (hb.cell (p := ⟨b, 0, none⟩) hbl).trans h.c0
  clear h
  have HS : Hid (∀ k, cnts S (k + 1) = cnts S k ++ [S.count k]) := cnts_succ S
  have HL : Hid (∀ k, (cnts S k).length = k) := cnts_len S
  generalize S.n = n at *
  go_enter Tryz.func59, Tryz.ntmps59
  go_wp2
  go_loopw [3, 4] (fun v i wr => ∃ k : Nat, k ≤ n ∧ i = .int .i64 k ∧ wr.ownsRow w.heap.size 3 1 v k (ivs (cnts S k)) ∧ Below w.heap.size w wr) (fun _ i _ => n - (intOf i).toNat)
  case atStart => exact ⟨0, Nat.zero_le _, rfl, World.ownsRow_nil _ _ _ _, Below.refl _ _⟩
  case round =>
    obtain ⟨k, hk, rfl, hown, hb⟩ := hrel
    have b0 := H0.out wr hb
    by_cases hlt : k < n
    · obtain ⟨cg, cc, g, cap, e1, e2, e3⟩ := HC.out wr k hb hlt
      generalize hx : S.count k = x at *
      have HX : Hid (cnts S (k + 1) = cnts S k ++ [x]) := by unfold Hid; rw [HS.out, hx]
      clear hx
      go_wp2_with (at_builtin; refine wpList_append_own _ rfl _ _ 58 rfl w.heap.size 3 i0 (.int .i64 0) 1 8 Tryz.underlying58 hi hz0 hz1 hz2 rfl (by decide) _ _ _ rfl (hown.alloc _) ⟨wr.heap.size, 0, none⟩ 1 1 [.int .i64 x] rfl rfl ?c1 ?c2 ?c3 ?c4 ?c5 ?_)
      case c1 =>
        intro j u hj
        match j, hj with
        | 0, hj => simp at hj; subst hj; simp [Addr.add]
      case c2 => intro u hu; simp at hu; subst hu; rfl
      case c3 => unfold maxLen; omega
      case c4 => omega
      case c5 => have := hb.size; simp; omega
      intro v' w1 hown' hgrow _
      have hb' : Below w.heap.size w w1 := (hb.alloc hb.size _).grown hgrow (by have := hb.size; simp; omega) (fun q hq => (hown.lt q hq).1)
      have e1 : ivs (cnts S k) ++ [.int .i64 x] = ivs (cnts S (k + 1)) := by rw [HX.out, ivs_append]; rfl
      rw [e1] at hown'
      clear hgrow hown hb e1
      go_wp2
      go_roundw
      case rel => exact ⟨k + 1, by omega, by go_num, hown', hb'⟩
      case measure => simp [intOf]; omega
    · have e : k = n := by omega
      subst e
      go_wp2
      go_ret
      exact ⟨_, rfl, hown, hb⟩

end Go.Proofs.YtaelaldmibgibaaGreatDoor

namespace Go.Proofs.YtaelaldmibgibaaGreatDoor
open Go.RowKit
attribute [local go_sem ↓] Go.wp_at_zero Go.wp_at_succ
attribute [local go_sem ↓] stSpot
attribute [local go_sem] run_stSpot

set_option maxHeartbeats 600000 in
/-- a record is kept where a file is there, or more (or less) is known than of all -/
theorem kept_gen (b q i : Nat) (ρ : Nat → Nat × Nat) (S : RS) (w : World) (h : RefRep w b ρ S) (hq : q < S.n) (v : Value) (l : List SP) (hx : S.rows[q]? = some (v, l)) (s : SP) (hks : l[i]? = some s) (cw : Value) (c : List Int) (hcx : S.coms[q]? = some (cw, c)) :
    Calls Tryz.prog 94 #[.pointer (some ⟨b, 0, none⟩), .int .i64 q, .int .i64 i] w fun e w' => e = .returned (.bool (s.there || !decide (s.tm = c))) ∧ ∃ nq, w' = w.drewN nq := by
  obtain ⟨g, cap, gc, cc, gt, ct, rfl, _, ec, et, q0, _, _, _, _, q5⟩ := h.six q v l hx i s hks
  obtain ⟨sg, sc, v', l', es, hs, hx', _⟩ := h.theRow q hq
  rw [hx] at hx'
  simp at hx'
  obtain ⟨rfl, rfl⟩ := hx'
  obtain ⟨cg, c1, gg, c2, c', ecv, hcc, hcx', hcl, _, _, _, _, _, _⟩ := h.common q hq
  rw [hcx] at hcx'
  obtain ⟨rfl, rfl⟩ := (show cw = _ ∧ c = c' by simpa using hcx')
  have b2 := h.c2
  rw [ecv] at b2
  have b3 := h.c3
  rw [es] at b3
  have hsp := h.sp q _ hx s (List.mem_of_getElem? hks)
  have hn1 := h.n1
  have hn6 := h.n6
  have hil : i < l.length := (List.getElem?_eq_some_iff.1 hks).1
  have hml : l.length ≤ maxLen := by
    rcases (h.row q _ hx).1.2 with ⟨_, h0⟩ | ⟨_, cap', _, _, _, _, hc, hm, _⟩
    · simp only at h0; omega
    · simp only at hc; omega
  unfold maxLen at hml
  have hT := hsp.tm
  rw [et] at hT
  have hC := (h.com q _ hcx).1
  simp only at hC
  have htl := hsp.tml
  have EQ : Hid (∀ nq, Calls Tryz.prog 164 #[.slice (some ⟨gt, 0, none⟩) S.n ct, .slice (some ⟨gg, 0, none⟩) S.n c2] (w.drewN nq) fun e w' => e = .returned (.bool (decide (s.tm = c))) ∧ ∃ m, w' = (w.drewN nq).drewN m) := by
    intro nq
    have := equal_any _ _ s.tm c (w.drewN nq) (ownsRow_keep hT (fun _ _ => rfl)) (ownsRow_keep hC (fun _ _ => rfl)) (by omega) (by omega) (by omega)
    exact this
  clear hT hC hsp hcx hx es ecv h hks ec et htl hcl
  generalize S.n = n at *
  go_enter Tryz.func94, Tryz.ntmps94
  go_wp2
  go_quiet ((go_at_call 164; exact Calls.quiet_of (EQ.out _)))
  cases ht : s.there with
  | true =>
    rw [ht] at q0
    go_wp2
    go_ret
    exact ⟨ret_bool (by rw [ht]; rfl), _, rfl⟩
  | false =>
    rw [ht] at q0
    go_wp2
    go_ret
    exact ⟨ret_bool (by rw [ht]; rfl), _, rfl⟩

def zero6' : Array Value := #[.bool false, .string ⟨#[]⟩, .int .i64 0, .int .i64 0, .slice none 0 0, .slice none 0 0]
/-- may a record be so: a spot, the counts, the common time -/
def mayB (r : Nat) (C c : List Int) (s : SP) : Bool :=
  wInD s.tm C && (s.tm.getD r 0 == C.getD r 0) && (if s.there = true then decide (1 ≤ s.num) && decide (s.num ≤ s.ch.getD s.by_.toNat 0) && wInD s.ch s.tm else !decide (s.tm = c))

/-- a copy of a spot in block x, the net beside it -/
structure Mx (w w' : World) (b : Nat) (ρ : Nat → Nat × Nat) (S : RS) (s : SP) : Prop where
  bel : Below w.heap.size w w'
  net : RefRep w' b ρ S
  blk : w'.heap[w.heap.size]? = some (.cells s.cells.toArray 117 (0, 0))
theorem Mx.made {w : World} {b : Nat} {ρ : Nat → Nat × Nat} {S : RS} (h : RefRep w b ρ S) (s : SP) : Mx w ((w.alloc (.cells zero6' 117)).setCells w.heap.size 0 s.cells) b ρ S s := by
  have B : Below w.heap.size w ((w.alloc (.cells zero6' 117)).setCells w.heap.size 0 s.cells) := Below.setCells ((Below.refl _ w).alloc (Nat.le_refl _) _) (Nat.le_refl _) _ _
  refine ⟨B, h.below B, ?_⟩
  have q : (w.alloc (.cells zero6' 117)).heap[w.heap.size]? = some (.cells zero6' 117 (0, 0)) := heap_alloc_new _ _
  have st : ∀ (W : World) (o : Nat) (cs : Array Value) (v : Value), W.heap[w.heap.size]? = some (.cells cs 117 (0, 0)) → (W.setCell ⟨w.heap.size, o, none⟩ v).heap[w.heap.size]? = some (.cells (cs.setIfInBounds o v) 117 (0, 0)) := fun W o cs v hW => by
    simp only [World.setCell, Array.getElem?_modify, hW, if_true, Option.map_some]
    rfl
  simp only [World.setCells, SP.cells]
  rw [st _ 5 _ _ (st _ 4 _ _ (st _ 3 _ _ (st _ 2 _ _ (st _ 1 _ _ (st _ 0 _ _ q)))))]
  simp [zero6']
theorem Mx.on {w w1 w2 : World} {b : Nat} {ρ : Nat → Nat × Nat} {S : RS} {s : SP} (h : Mx w w1 b ρ S s) (hb : Below w1.heap.size w1 w2) : Mx w w2 b ρ S s :=
  ⟨below_step h.bel hb, h.net.below hb, by rw [hb.block _ (Array.getElem?_eq_some_iff.1 h.blk).1]; exact h.blk⟩
theorem Mx.drewN {w w1 : World} {b : Nat} {ρ : Nat → Nat × Nat} {S : RS} {s : SP} (h : Mx w w1 b ρ S s) (m : Nat) : Mx w (w1.drewN m) b ρ S s :=
  ⟨⟨h.bel.os, h.bel.tape, h.bel.output, h.bel.size, h.bel.block⟩, h.net.keep (Nat.le_refl _) (fun _ _ => rfl), h.blk⟩
theorem Mx.cells6 {w w1 : World} {b : Nat} {ρ : Nat → Nat × Nat} {S : RS} {s : SP} (h : Mx w w1 b ρ S s) : w1.cell? ⟨w.heap.size, 0, none⟩ = some (.bool s.there) ∧ w1.cell? ⟨w.heap.size, 2, none⟩ = some (.int .i64 s.by_) ∧ w1.cell? ⟨w.heap.size, 3, none⟩ = some (.int .i64 s.num) ∧ w1.cell? ⟨w.heap.size, 4, none⟩ = some s.chv ∧ w1.cell? ⟨w.heap.size, 5, none⟩ = some s.tmv := by
  refine ⟨?_, ?_, ?_, ?_, ?_⟩ <;> simp only [World.cell?, h.blk] <;> rfl

set_option maxRecDepth 100000 in
set_option maxHeartbeats 2000000 in
theorem may_any (b r i : Nat) (ρ : Nat → Nat × Nat) (S : RS) (w : World) (h : RefRep w b ρ S) (hr : r < S.n) (v : Value) (l : List SP) (hx : S.rows[r]? = some (v, l)) (s : SP) (hks : l[i]? = some s) (cw : Value) (c : List Int) (hcx : S.coms[r]? = some (cw, c)) (hby : 0 ≤ s.by_ ∧ s.by_ < S.n) :
    Calls Tryz.prog 57 #[.pointer (some ⟨b, 0, none⟩), .int .i64 r, .int .i64 i] w fun e w' => e = .returned (.bool (mayB r (cnts S S.n) c s)) ∧ Below w.heap.size w w' := by
  obtain ⟨g, cap, gc, cc, gt, ct, rfl, _, ec, et, q0, q1, q2, q3, q4, q5⟩ := h.six r v l hx i s hks
  obtain ⟨sg, sc, v', l', es, hs, hx', _⟩ := h.theRow r hr
  rw [hx] at hx'
  simp at hx'
  obtain ⟨rfl, rfl⟩ := hx'
  have b3 := h.c3
  rw [es] at b3
  have hsp := h.sp r _ hx s (List.mem_of_getElem? hks)
  have hn1 := h.n1
  have hn6 := h.n6
  have hil : i < l.length := (List.getElem?_eq_some_iff.1 hks).1
  have hml : l.length ≤ maxLen := by
    rcases (h.row r _ hx).1.2 with ⟨_, h0⟩ | ⟨_, cap', _, _, _, _, hc, hm, _⟩
    · simp only at h0; omega
    · simp only at hc; omega
  unfold maxLen at hml
  have hsz := size_Spot
  have ht1 : (w.alloc (.cells zero6' 117)).there w.heap.size 0 6 := (Mine.made' w zero6' 117 (n := 6) rfl).there
  simp only [zero6'] at ht1
  have HH := hide h
  have HK := hide hks
  have HX := hide hx
  have HCX := hide hcx
  have HSP := hide hsp
  clear h hks hx hcx hsp es
  go_enter Tryz.func57, Tryz.ntmps57
  have HM := hide (Mx.made HH.out s)
  simp only [SP.cells, zero6', ec, et] at HM
  obtain ⟨B, hB⟩ : ∃ B : Nat, s.by_ = (B : Int) := ⟨s.by_.toNat, by omega⟩
  have hBn : B < S.n := by omega
  have HB0 := hide hB
  have ltm := HSP.out.tml
  have lch := HSP.out.chl
  have HT : Hid (∀ W : World, Mx w W b ρ S s → intRow W (.slice (some ⟨gt, 0, none⟩) S.n ct) s.tm ∧ intRow W (.slice (some ⟨gc, 0, none⟩) S.n cc) s.ch) := fun W hW => by
    have q := hW.net.sp r _ HX.out s (List.mem_of_getElem? HK.out)
    rw [← ec, ← et]
    exact ⟨q.tm, q.ch⟩
  have WC : Hid (∀ (W : World) (g2 c2 : Nat), Mx w W b ρ S s → intRow W (.slice (some ⟨g2, 0, none⟩) S.n c2) (cnts S S.n) → Calls Tryz.prog 58 #[.slice (some ⟨gt, 0, none⟩) S.n ct, .slice (some ⟨g2, 0, none⟩) S.n c2] W fun e w' => e = .returned (.bool (wInD s.tm (cnts S S.n))) ∧ ∃ nq, w' = W.drewN nq) := fun W g2 c2 hW hr2 => within_any _ _ _ _ W (HT.out W hW).1 hr2 (by rw [ltm, cnts_len]) (by omega) (by omega)
  have WD : Hid (∀ (W : World), Mx w W b ρ S s → Calls Tryz.prog 58 #[.slice (some ⟨gc, 0, none⟩) S.n cc, .slice (some ⟨gt, 0, none⟩) S.n ct] W fun e w' => e = .returned (.bool (wInD s.ch s.tm)) ∧ ∃ nq, w' = W.drewN nq) := fun W hW => within_any _ _ _ _ W (HT.out W hW).2 (HT.out W hW).1 (by rw [ltm, lch]) (by omega) (by omega)
  have KG : Hid (∀ (W : World), Mx w W b ρ S s → Calls Tryz.prog 94 #[.pointer (some ⟨b, 0, none⟩), .int .i64 r, .int .i64 i] W fun e w' => e = .returned (.bool (s.there || !decide (s.tm = c))) ∧ ∃ nq, w' = W.drewN nq) := fun W hW => kept_gen b r i ρ S W hW.net hr _ l HX.out s HK.out cw c HCX.out
  have CT : Hid (∀ (W : World), Mx w W b ρ S s → W.cell? ⟨gt, r, none⟩ = some (.int .i64 (s.tm.getD r 0)) ∧ W.cell? ⟨gc, B, none⟩ = some (.int .i64 (s.ch.getD B 0))) := fun W hW => by
    obtain ⟨g', c', e', _, q', _, _⟩ := (HT.out W hW).1.form (by omega)
    obtain ⟨g'', c'', e'', _, q'', _, _⟩ := (HT.out W hW).2.form (by omega)
    simp at e' e''
    obtain ⟨rfl, _, _⟩ := e'
    obtain ⟨rfl, _, _⟩ := e''
    exact ⟨q' r (by omega), q'' B (by omega)⟩
  have C2 : Hid (∀ (W : World) (g2 c2 : Nat), intRow W (.slice (some ⟨g2, 0, none⟩) S.n c2) (cnts S S.n) → W.cell? ⟨g2, r, none⟩ = some (.int .i64 ((cnts S S.n).getD r 0))) := fun W g2 c2 hr2 => by
    obtain ⟨g', c', e', _, q', _, _⟩ := hr2.form (by rw [cnts_len]; omega)
    simp at e'
    obtain ⟨rfl, _, _⟩ := e'
    exact q' r (by rw [cnts_len]; omega)
  have hmay : Hid (mayB r (cnts S S.n) c s = (wInD s.tm (cnts S S.n) && (s.tm.getD r 0 == (cnts S S.n).getD r 0) && (if s.there = true then decide (1 ≤ s.num) && decide (s.num ≤ s.ch.getD B 0) && wInD s.ch s.tm else !decide (s.tm = c)))) := by unfold Hid mayB; rw [HB0.out, Int.toNat_natCast]
  generalize mayB r (cnts S S.n) c s = M at hmay ⊢
  clear HT HSP HX HK HCX ltm lch hby hB
  go_wp2_with fail
  go_at_call 59
  refine (counts_any b ρ S _ HM.out.net).mono ?_
  rintro e w2 ⟨v2, rfl, ho2, hb2⟩
  obtain ⟨g2, c2, rfl, _, _⟩ := World.ownsRow.form ho2 (by omega)
  have M2 := hide (HM.out.on hb2)
  have R2 : Hid (intRow w2 (.slice (some ⟨g2, 0, none⟩) S.n c2) (cnts S S.n)) := by
    unfold Hid intRow
    rw [cnts_len]
    exact ownsRow_base ho2 (fun _ _ => Nat.zero_le _)
  obtain ⟨k0, k2, k3, k4, k5⟩ := M2.out.cells6
  rw [ec] at k4
  rw [et] at k5
  rw [HB0.out] at k2
  obtain ⟨t1, t2⟩ := CT.out _ M2.out
  have t3 := C2.out _ _ _ R2.out
  clear ho2 hb2 HM ht1 b3 hs q0 q1 q2 q3 q4 q5
  go_wp2_with fail
  go_at_call 58
  refine (WC.out w2 g2 c2 M2.out R2.out).mono ?_
  rintro e w3 ⟨rfl, nq, rfl⟩
  clear WC
  dsimp only
  have MB := hide (fun m => (M2.out.drewN m).bel)
  cases hI : wInD s.tm (cnts S S.n) with
  | false =>
    go_wp2_with fail
    go_quiet (fail)
    go_wp2
    go_ret
    exact ⟨ret_bool (by rw [hmay.out, hI]; rfl), by first | exact MB.out _ | (rw [World.drewN_drewN]; exact MB.out _)⟩
  | true =>
    by_cases hxy : s.tm.getD r 0 = (cnts S S.n).getD r 0
    · rw [← hxy] at t3
      have E1 : Hid (M = if s.there = true then decide (1 ≤ s.num) && decide (s.num ≤ s.ch.getD B 0) && wInD s.ch s.tm else !decide (s.tm = c)) := by unfold Hid; rw [hmay.out, hI, hxy]; simp
      clear hmay hxy
      generalize s.tm.getD r 0 = x at *
      have d1 : (x != x) = false := by simp
      cases hth : s.there with
      | false =>
        have E2 : Hid (M = !decide (s.tm = c)) := by unfold Hid; rw [E1.out, hth]; simp
        rw [hth] at k0
        clear E1
        go_wp2_with fail
        go_quiet (fail)
        go_wp2_with (go_at_call 94; refine (KG.out _ (M2.out.drewN _)).mono ?_; rintro e w5 ⟨rfl, m, rfl⟩)
        go_ret
        exact ⟨ret_bool E2.out.symm, by first | exact MB.out _ | (rw [World.drewN_drewN]; exact MB.out _)⟩
      | true =>
        have E2 : Hid (M = (decide (1 ≤ s.num) && decide (s.num ≤ s.ch.getD B 0) && wInD s.ch s.tm)) := by unfold Hid; rw [E1.out, hth]; simp
        rw [hth] at k0
        clear E1
        go_wp2_with fail
        go_quiet (fail)
        go_wp2_with (go_at_call 58; refine (WD.out _ (M2.out.drewN _)).mono ?_; rintro e w5 ⟨rfl, m, rfl⟩)
        generalize wInD s.ch s.tm = hd at *
        cases ha1 : decide ((1 : Int) ≤ s.num) with
        | false =>
          have E3 : Hid (M = false) := by unfold Hid; rw [E2.out, ha1]; rfl
          clear E2
          go_wp2_with fail
          go_quiet (fail)
          go_wp2
          go_ret
          exact ⟨ret_bool E3.out.symm, by first | exact MB.out _ | (rw [World.drewN_drewN]; exact MB.out _)⟩
        | true =>
          cases ha2 : decide (s.num ≤ s.ch.getD B 0) with
          | false =>
            have E3 : Hid (M = false) := by unfold Hid; rw [E2.out, ha1, ha2]; rfl
            clear E2
            generalize s.ch.getD B 0 = z at *
            go_wp2_with fail
            go_quiet (fail)
            go_wp2
            go_ret
            exact ⟨ret_bool E3.out.symm, by first | exact MB.out _ | (rw [World.drewN_drewN]; exact MB.out _)⟩
          | true =>
            have E3 : Hid (M = hd) := by unfold Hid; rw [E2.out, ha1, ha2]; rfl
            clear E2
            generalize s.ch.getD B 0 = z at *
            go_wp2_with fail
            go_quiet (fail)
            go_wp2
            go_ret
            exact ⟨ret_bool E3.out.symm, by first | exact MB.out _ | (rw [World.drewN_drewN]; exact MB.out _)⟩
    · have E1 : Hid (M = false) := by unfold Hid; rw [hmay.out, hI, show (s.tm.getD r 0 == (cnts S S.n).getD r 0) = false from beq_eq_false_iff_ne.2 hxy]; rfl
      have d1 : (s.tm.getD r 0 != (cnts S S.n).getD r 0) = true := by simp only [bne_iff_ne]; exact hxy
      clear hmay hxy
      generalize s.tm.getD r 0 = x at *
      generalize (cnts S S.n).getD r 0 = y at *
      go_wp2_with fail
      go_quiet (fail)
      go_wp2
      go_ret
      exact ⟨ret_bool E1.out.symm, by first | exact MB.out _ | (rw [World.drewN_drewN]; exact MB.out _)⟩

end Go.Proofs.YtaelaldmibgibaaGreatDoor

namespace Go.Proofs.YtaelaldmibgibaaGreatDoor
open Go.RowKit

/-- the reader (the first block that is made), the net, what was read -/
structure U0 (w wr : World) (s : ByteArray) (x : Nat × Bool) (tb n : Nat) (ρ σ : Nat → Nat × Nat) (S : RS) (R : List RR) (nv xv : Value) (ns xs : List Value) : Prop where
  rd : Rd wr w.heap.size s x.1 x.2
  net : RefRep wr tb ρ S
  sn : S.n = n
  db : Rdb w.heap.size wr σ n R nv xv ns xs
  ap : ∀ k, (ρ k).1 ≠ 0 → (σ k).1 = 0
  rlo : ∀ k, (ρ k).1 ≠ 0 → w.heap.size < k
  srd : (σ w.heap.size).1 = 0
  bel : Below w.heap.size w wr

section
variable {w wr w' : World} {s : ByteArray} {x y : Nat × Bool} {tb n : Nat} {ρ σ : Nat → Nat × Nat} {S : RS} {R : List RR} {nv xv : Value} {ns xs : List Value}

theorem U0.n1 (h : U0 w wr s x tb n ρ σ S R nv xv ns xs) : 1 ≤ n := by rw [← h.sn]; exact h.net.n1
theorem U0.n6 (h : U0 w wr s x tb n ρ σ S R nv xv ns xs) : n ≤ 6 := by rw [← h.sn]; exact h.net.n6
/-- what turns is the reader, and what is new -/
theorem U0.onRd (h : U0 w wr s x tb n ρ σ S R nv xv ns xs) (hr : Rd w' w.heap.size s y.1 y.2) (hf : Fr (fun k => k = w.heap.size) wr w') : U0 w w' s y tb n ρ σ S R nv xv ns xs := by
  refine ⟨hr, h.net.fr hf (fun k hk e => by have := h.rlo k hk; omega), h.sn, h.db.keep hf.size (fun k hk => hf.block k (h.db.lo k hk).2 (fun e => by subst e; exact hk h.srd)), h.ap, h.rlo, h.srd, ?_⟩
  exact ⟨hf.os.trans h.bel.os, hf.tape.trans h.bel.tape, hf.output.trans h.bel.output, Nat.le_trans h.bel.size hf.size, fun k hk => (hf.block k (Nat.lt_of_lt_of_le hk h.bel.size) (by omega)).trans (h.bel.block k hk)⟩
theorem U0.below (h : U0 w wr s x tb n ρ σ S R nv xv ns xs) (hb : Below wr.heap.size wr w') : U0 w w' s x tb n ρ σ S R nv xv ns xs :=
  h.onRd (h.rd.keep (hb.block _ h.rd.lt)) (Fr.of_below hb)
theorem U0.drewN (h : U0 w wr s x tb n ρ σ S R nv xv ns xs) (m : Nat) : U0 w (wr.drewN m) s x tb n ρ σ S R nv xv ns xs :=
  h.onRd (h.rd.keep rfl) ((Fr.refl _ _).drewN m)
theorem U0.want (h : U0 w wr s x tb n ρ σ S R nv xv ns xs) (p : ByteArray) (hp : p.size ≤ 1000) :
    Calls Tryz.prog 50 #[.pointer (some ⟨w.heap.size, 0, none⟩), .string p] wr fun e w' => e = .returned (.tuple #[]) ∧ U0 w w' s (wantS s p x) tb n ρ σ S R nv xv ns xs := by
  refine (want_any _ s x.1 x.2 p hp wr h.rd).mono ?_
  rintro e w' ⟨rfl, hr, hf⟩
  exact ⟨rfl, h.onRd hr hf⟩

/-- a time is read -/
structure U1 (w wr w' : World) (s : ByteArray) (x : Nat × Bool) (tb n : Nat) (ρ σ : Nat → Nat × Nat) (S : RS) (R : List RR) (nv xv : Value) (ns xs : List Value) (g cap : Nat) (l : List Int) : Prop where
  u : U0 w w' s x tb n ρ σ S R nv xv ns xs
  own : w'.ownsRow wr.heap.size 3 1 (.slice (some ⟨g, 0, none⟩) n cap) n (ivs l)
  len : l.length = n
  le : w.heap.size < g
  rf : (ρ g).1 = 0
  sf : (σ g).1 = 0
theorem U0.time (h : U0 w wr s x tb n ρ σ S R nv xv ns xs) :
    Calls Tryz.prog 52 #[.pointer (some ⟨w.heap.size, 0, none⟩), .int .i64 n] wr fun e w' => ∃ g cap, e = .returned (.slice (some ⟨g, 0, none⟩) n cap) ∧ U1 w wr w' s (timeS s n x).1 tb n ρ σ S R nv xv ns xs g cap (timeS s n x).2 := by
  refine (time_any _ s x n h.n6 wr h.rd).mono ?_
  rintro e w' ⟨v, rfl, hT⟩
  have h1 := h.n1
  have ho := hT.own
  rw [timeS_len] at ho
  obtain ⟨g, cap, rfl, hg, hgl⟩ := World.ownsRow.form ho (by omega)
  have f1 : (ρ g).1 = 0 := by
    rcases Nat.decEq (ρ g).1 0 with e | e
    · have := h.net.lt g e; omega
    · exact e
  exact ⟨g, cap, rfl, h.onRd hT.rd hT.fr, ho, timeS_len _ _ _, by have := h.rd.lt; omega, f1, h.db.free hg⟩
/-- .. and becomes replica i's common time -/
theorem U1.put {g cap : Nat} {l : List Int} (h : U1 w wr w' s x tb n ρ σ S R nv xv ns xs g cap l) (cg cc i : Nat) (es : S.cv = .slice (some ⟨cg, 0, none⟩) S.n cc) (hi : i < n) :
    U0 w (w'.setCell ⟨cg, i, none⟩ (.slice (some ⟨g, 0, none⟩) n cap)) s x tb n (upd ρ g (4, i)) σ { S with coms := S.coms.set i (.slice (some ⟨g, 0, none⟩) n cap, l) } R nv xv ns xs := by
  have hglt := h.own.lt g rfl
  have hcg : ρ cg = (3, 0) := h.u.net.rc cg (by rw [es]; rfl)
  have hcgl := h.u.rlo cg (by rw [hcg]; decide)
  have hcs : (σ cg).1 = 0 := h.u.ap cg (by rw [hcg]; decide)
  have hgc : cg ≠ g := fun e => by have q := h.rf; rw [← e, hcg] at q; exact absurd q (by decide)
  have hz := h.u.bel.size
  have N := (h.u.net.upd (4, i) h.rf hglt.2).putCom cg cc i es (by rw [h.u.sn]; exact hi) (.slice (some ⟨g, 0, none⟩) n cap) l (by unfold intRow; rw [h.len]; exact ownsRow_base h.own (fun _ _ => Nat.zero_le _)) (by rw [h.len, h.u.sn]) (fun k hk => by
    have : k = g := by simpa [Value.ownBlock] using hk.symm
    subst this
    unfold Go.Proofs.YtaelaldmibgibaaGreatDoor.upd
    rw [if_pos rfl])
  have oth : ∀ k, k ≠ cg → (w'.setCell ⟨cg, i, none⟩ (.slice (some ⟨g, 0, none⟩) n cap)).heap[k]? = w'.heap[k]? := fun k hk => heap_set_other hk
  refine ⟨h.u.rd.keep (oth _ (by omega)), N, h.u.sn, h.u.db.keep (by rw [size_setCell]; exact Nat.le_refl _) (fun k hk => oth k (fun e => by subst e; exact hk hcs)), fun k hk => ?_, fun k hk => ?_, h.u.srd, ?_⟩
  · unfold Go.Proofs.YtaelaldmibgibaaGreatDoor.upd at hk
    by_cases e : k = g
    · subst e; exact h.sf
    · rw [if_neg e] at hk; exact h.u.ap k hk
  · unfold Go.Proofs.YtaelaldmibgibaaGreatDoor.upd at hk
    by_cases e : k = g
    · subst e; exact h.le
    · rw [if_neg e] at hk; exact h.u.rlo k hk
  · exact h.u.bel.setCell (by simp only; omega) _
end

end Go.Proofs.YtaelaldmibgibaaGreatDoor

namespace Go.Proofs.YtaelaldmibgibaaGreatDoor
open Go.RowKit

/-- the reader alone -/
structure Hd (w wr : World) (s : ByteArray) (x : Nat × Bool) : Prop where
  rd : Rd wr w.heap.size s x.1 x.2
  bel : Below w.heap.size w wr
theorem Hd.onRd {w wr w' : World} {s : ByteArray} {x y : Nat × Bool} (h : Hd w wr s x) (hr : Rd w' w.heap.size s y.1 y.2) (hf : Fr (fun k => k = w.heap.size) wr w') : Hd w w' s y :=
  ⟨hr, ⟨hf.os.trans h.bel.os, hf.tape.trans h.bel.tape, hf.output.trans h.bel.output, Nat.le_trans h.bel.size hf.size, fun k hk => (hf.block k (Nat.lt_of_lt_of_le hk h.bel.size) (by omega)).trans (h.bel.block k hk)⟩⟩
theorem Hd.made (w : World) (s : ByteArray) (hs : s.size ≤ 1000000000000) : Hd w (w.alloc (.cells #[.string s, .int .i64 0, .bool false] 109)) s (0, false) :=
  ⟨⟨heap_alloc_new _ _, Nat.zero_le _, hs⟩, (Below.refl _ _).alloc (Nat.le_refl _) _⟩
theorem Hd.want {w wr : World} {s : ByteArray} {x : Nat × Bool} (h : Hd w wr s x) (p : ByteArray) (hp : p.size ≤ 1000) :
    Calls Tryz.prog 50 #[.pointer (some ⟨w.heap.size, 0, none⟩), .string p] wr fun e w' => e = .returned (.tuple #[]) ∧ Hd w w' s (wantS s p x) := by
  refine (want_any _ s x.1 x.2 p hp wr h.rd).mono ?_
  rintro e w' ⟨rfl, hr, hf⟩
  exact ⟨rfl, h.onRd hr hf⟩
theorem Hd.num {w wr : World} {s : ByteArray} {x : Nat × Bool} (h : Hd w wr s x) :
    Calls Tryz.prog 51 #[.pointer (some ⟨w.heap.size, 0, none⟩)] wr fun e w' => e = .returned (.int .i64 (numVal s x.1)) ∧ Hd w w' s (numS s x) := by
  refine (number_any _ s x.1 x.2 wr h.rd).mono ?_
  rintro e w' ⟨rfl, hr, hf⟩
  exact ⟨rfl, h.onRd hr hf⟩

set_option maxRecDepth 100000 in
set_option maxHeartbeats 2000000 in
/-- the first line is not as it must be -/
theorem unpack_head (s : ByteArray) (hs : s.size ≤ 1000000000000) (w : World) (hh : headOk s = false) :
    Calls Tryz.prog 28 #[.string s] w fun e w' => e = .returned (.tuple #[.pointer none, .int .i64 7]) ∧ Below w.heap.size w w' := by
  have H0 := hide (Hd.made w s hs)
  generalize hx1 : wantS s reunionW (0, false) = x1
  generalize hx2 : numS s x1 = x2
  generalize hx3 : wantS s newl x2 = x3
  have e3 : headS s = x3 := by unfold headS; rw [hx1, hx2, hx3]
  have en : headN s = numVal s x1.1 := by unfold headN; rw [hx1]
  have how : x3.2 = true ∨ (x3.2 = false ∧ decide ((numVal s x1.1 : Int) < 1) = true) ∨ (x3.2 = false ∧ decide ((numVal s x1.1 : Int) < 1) = false ∧ decide ((6 : Int) < (numVal s x1.1 : Int)) = true) := by
    unfold headOk at hh
    rw [e3, en] at hh
    cases hx : x3.2
    · refine .inr ?_
      rw [hx] at hh
      by_cases h1 : 1 ≤ numVal s x1.1
      · refine .inr ⟨rfl, by simp; omega, ?_⟩
        have : ¬ numVal s x1.1 ≤ 6 := fun h6 => by simp [h1, h6] at hh
        simp; omega
      · exact .inl ⟨rfl, by simp; omega⟩
    · exact .inl rfl
  clear e3 en hh
  rcases how with d1 | ⟨d1, d2⟩ | ⟨d1, d2, d3⟩
  all_goals
    go_enter Tryz.func28, Tryz.ntmps28
    go_wp2_with (first
      | (go_at_call 50; have q := H2; refine (H2.out.want newl (by decide)).mono ?_; rw [hx3]; rintro e w3 ⟨rfl, h3⟩; have H3 := hide h3; have c2 := h3.rd.c2; rw [d1] at c2; clear h3 H2)
      | (go_at_call 51; have q := H1; refine (H1.out.num).mono ?_; rw [hx2]; rintro e w2 ⟨rfl, h2⟩; have H2 := hide h2; clear h2 H1)
      | (go_at_call 50; refine (H0.out.want reunionW (by decide)).mono ?_; rw [hx1]; rintro e w1 ⟨rfl, h1⟩; have H1 := hide h1; clear h1 H0))
    go_ret2
    exact ⟨rfl, H3.out.bel⟩

end Go.Proofs.YtaelaldmibgibaaGreatDoor
