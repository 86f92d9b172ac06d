/- The program's New. -/
import Derived.Test.YtaelaldmibgibaaGreatDoorW19

namespace Go.Proofs.YtaelaldmibgibaaGreatDoor
open Go.RowKit Go.Maps

theorem tf_nil (s : Nat) : tf s 0 = fun _ => 0 := by
  funext j
  by_cases hj : j = s
  · subst hj
    unfold tf one
    by_cases h : j < 6
    · match j, h with
      | 0, _ | 1, _ | 2, _ | 3, _ | 4, _ | 5, _ => rfl
    · rw [List.set_eq_of_length_le (by simp; omega), List.getD_eq_getElem?_getD, List.getElem?_replicate, if_neg h]; rfl
  · exact tf_other s 0 j hj

set_option maxHeartbeats 400000 in
theorem pnew_any (s : Nat) (hs : s < 6) (w : World) :
    Calls Tryz.prog 48 #[.int .i64 s] w fun e w' => e = .returned (.pointer (some ⟨w.heap.size + 1, 0, none⟩)) ∧ PRep w' (w.heap.size + 1) s w.heap.size 0 [] ∧ Below w.heap.size w w' ∧ w'.heap.size = w.heap.size + 2 := by
  have hmm := @run_makeMap Tryz.prog
  go_enter Tryz.func48, Tryz.ntmps48
  go_wp2
  go_ret
  have e1 : (w.alloc (.map #[] 0)).heap.size = w.heap.size + 1 := by simp
  refine ⟨rfl, ⟨⟨?_, hs⟩, ?_, List.Pairwise.nil, fun x hx => by simp at hx, fun x hx => by simp at hx, by simp, Int.le_refl 0⟩, ((Below.refl _ _).alloc (Nat.le_refl _) _).alloc (by simp) _, by simp⟩
  · rw [← e1, heap_alloc_new]
    simp only [tf_nil]
  · exact (World.ownsMap_made w Tryz.prog 9 recElem).alloc _

theorem info_ptr : (Tryz.prog.info? 92).map (fun i => (i.zero, i.size, i.bytes)) = some (some (.pointer none), 1, 8) := by kernel_rfl
theorem step_app_ptr {ops : Array Oper} {o : Oper} {a : Act} {K : Act → World → Prop} {Q : Exit → Act → World → Prop} {E : Prop} (w : World) (hgd : o.guard = none) (s x : Operand) (ho : o.op = .call { callee := .builtin .append, args := #[s, x], argTypes := #[95, 95] }) (base : Nat) (v : Value) (n : Nat) (xs : List Value) (hs : a.eval s = v) (hown : w.ownsRow base 92 1 v n xs)
    (k : Nat) (y : Addr) (hx : a.eval x = .slice (some ⟨k, 0, none⟩) 1 1) (hc : w.cell? ⟨k, 0, none⟩ = some (.pointer (some y))) (hn : n ≤ 1000000000000) (hb : base ≤ w.heap.size)
    (h : ∀ g cap w1, w1.ownsRow base 92 1 (.slice (some ⟨g, 0, none⟩) (n + 1) cap) (n + 1) (xs ++ [.pointer (some y)]) → w.grownBy w1 v.ownBlock → (v.ownBlock = some g ∨ g = w.heap.size) → g < w1.heap.size → K (a.put o.dst (.slice (some ⟨g, 0, none⟩) (n + 1) cap)) w1) :
    if Region.wanted o (yielded ops a.tmps) = true then Oper.wp Tryz.prog o a w K Q else E := by
  obtain ⟨i0, hi, hz0, hz1, hz2⟩ := info_parts info_ptr
  refine step_append_lies w hgd s x 95 ho base 92 i0 _ 1 8 Tryz.underlying95 hi hz0 hz1 hz2 rfl (by decide) v n xs hs hown ⟨k, 0, none⟩ 1 1 [.pointer (some y)] hx rfl ?_ ?_ (by omega) (by unfold maxLen; omega) (by omega) hb _ rfl h
  · intro j u hj
    match j, hj with
    | 0, hj => simp at hj; subst hj; simpa [Addr.add] using hc
  · intro u hu; simp at hu; subst hu; rfl

def ptr (b : Nat) : Value := .pointer (some ⟨b, 0, none⟩)
/-- a net in the making -/
structure Prt (w0 w : World) (i : Nat) (cw : Value) (rbs mbs : List Nat) : Prop where
  below : Below w0.heap.size w0 w
  net : w.heap[w0.heap.size]? = some (.cells #[cw] 97 (0, 0))
  rl : rbs.length = i
  ml : mbs.length = i
  c : w.ownsRow w0.heap.size 92 1 cw i (rbs.map ptr)
  rep : ∀ r rb mb, rbs[r]? = some rb → mbs[r]? = some mb → PRep w rb r mb 0 []
  mnd : mbs.Nodup
  lo : ∀ k, k ∈ rbs ∨ k ∈ mbs → w0.heap.size ≤ k ∧ k < w.heap.size

theorem Prt.start (w : World) : Prt w (w.alloc (.cells #[.slice none 0 0] 97)) 0 (.slice none 0 0) [] [] :=
  ⟨(Below.refl _ _).alloc (Nat.le_refl _) _, heap_alloc_new _ _, rfl, rfl, World.ownsRow_nil _ _ _ _, fun r rb mb h => by simp at h, List.nodup_nil, fun k hk => by simp at hk⟩
theorem Prt.cell {w0 w : World} {i : Nat} {cw : Value} {rbs mbs : List Nat} (h : Prt w0 w i cw rbs mbs) : w.cell? ⟨w0.heap.size, 0, none⟩ = some cw ∧ w.frozen? ⟨w0.heap.size, 0, none⟩ = false ∧ w0.heap.size < w.heap.size :=
  ⟨by simp [World.cell?, h.net], by simp [World.frozen?, h.net], (Array.getElem?_eq_some_iff.1 h.net).1⟩
/-- the row's block is no other's -/
theorem Prt.row {w0 w : World} {i : Nat} {cw : Value} {rbs mbs : List Nat} (h : Prt w0 w i cw rbs mbs) {g : Nat} (hg : cw.ownBlock = some g) : g ≠ w0.heap.size ∧ (∀ (r rb mb : Nat), rbs[r]? = some rb → mbs[r]? = some mb → g ≠ rb ∧ g ≠ mb) := by
  rcases h.c.2 with ⟨e, _⟩ | ⟨g', cap, cur, e, _, hb, _⟩
  · rw [e] at hg; cases hg
  · rw [e] at hg
    cases hg
    refine ⟨?_, fun r rb mb h1 h2 => ⟨?_, ?_⟩⟩
    · intro e2
      simp only at e2 hb
      rw [e2, h.net] at hb
      cases hb
    · intro e2
      have := (h.rep r rb mb h1 h2).rep.blk
      simp only at e2 hb
      rw [← e2, hb] at this
      cases this
    · intro e2
      obtain ⟨es, cl, hm, _⟩ := (h.rep r rb mb h1 h2).own
      simp only at e2 hb
      rw [← e2, hb] at hm
      cases hm
theorem Prt.net1 {w0 w wz w1 : World} {i : Nat} {cw : Value} {rbs mbs : List Nat} (h : Prt w0 w i cw rbs mbs) (hb : Below w.heap.size w wz) {o : Obj} (hg : (wz.alloc o).grownBy w1 cw.ownBlock) :
    w1.heap[w0.heap.size]? = w.heap[w0.heap.size]? ∧ w1.cell? ⟨w0.heap.size, 0, none⟩ = some cw ∧ w1.frozen? ⟨w0.heap.size, 0, none⟩ = false := by
  obtain ⟨h1, h2, h3⟩ := h.cell
  have e : w1.heap[w0.heap.size]? = w.heap[w0.heap.size]? := by
    have := hb.size
    rw [hg.block _ (by simp; omega) (fun e => (h.row e.symm).1 rfl), Below.heap_alloc _ _ _ (by omega)]
    exact hb.block _ h3
  exact ⟨e, (World.cell?_of_block (w := w) e).trans h1, (World.frozen?_of_block (w := w) e).trans h2⟩

/-- one replica more -/
theorem Prt.add {w0 w wz w1 : World} {i : Nat} {cw : Value} {rbs mbs : List Nat} (h : Prt w0 w i cw rbs mbs) (hb : Below w.heap.size w wz) (hz : PRep wz (w.heap.size + 1) i w.heap.size 0 []) (hzs : wz.heap.size = w.heap.size + 2) (o : Obj) (g cap : Nat)
    (ho : w1.ownsRow w0.heap.size 92 1 (.slice (some ⟨g, 0, none⟩) (i + 1) cap) (i + 1) (rbs.map ptr ++ [ptr (w.heap.size + 1)])) (hg : (wz.alloc o).grownBy w1 cw.ownBlock) (hat : cw.ownBlock = some g ∨ g = (wz.alloc o).heap.size) :
    Prt w0 (w1.setCell ⟨w0.heap.size, 0, none⟩ (.slice (some ⟨g, 0, none⟩) (i + 1) cap)) (i + 1) (.slice (some ⟨g, 0, none⟩) (i + 1) cap) (rbs ++ [w.heap.size + 1]) (mbs ++ [w.heap.size]) := by
  obtain ⟨_, _, hbl⟩ := h.cell
  obtain ⟨hnb, _, _⟩ := h.net1 hb hg
  have hst : ∀ k, k < wz.heap.size → cw.ownBlock ≠ some k → w1.heap[k]? = wz.heap[k]? := fun k hk hc => by
    rw [hg.block k (by simp; omega) (fun e => hc e.symm)]; exact Below.heap_alloc _ _ _ hk
  have hg0 : g ≠ w0.heap.size := by
    rcases hat with q | q
    · exact (h.row q).1
    · rw [q]; simp; omega
  have hcl : ∀ k, cw.ownBlock = some k → k < w.heap.size := fun k e => (World.ownsRow.lt h.c k e).2
  have hbw : Below w0.heap.size w0 w1 := by
    have h1 := h.below.trans (hb.mono h.below.size)
    exact (h1.alloc h1.size o).grown hg (by simp; have := h1.size; omega) (fun k hk => (World.ownsRow.lt h.c k hk).1)
  have hs1 : wz.heap.size ≤ w1.heap.size := by have := hg.size; simp at this; omega
  have hs2 : (w1.setCell ⟨w0.heap.size, 0, none⟩ (.slice (some ⟨g, 0, none⟩) (i + 1) cap)).heap.size = w1.heap.size := by simp [World.setCell]
  refine ⟨hbw.setCell (Nat.le_refl _) _, ?_, by simp [h.rl], by simp [h.ml], ?_, ?_, ?_, ?_⟩
  · have := heap_setCell_same w1 w0.heap.size 0 _ _ (.slice (some ⟨g, 0, none⟩) (i + 1) cap) (hnb.trans h.net)
    simpa using this
  · rw [List.map_append]
    exact ownsRow_keep ho (fun k hk => heap_set_other (by simp [Value.ownBlock] at hk; subst hk; exact hg0))
  · intro r rb mb hr hm
    by_cases hri : r < rbs.length
    · rw [List.getElem?_append_left hri] at hr
      rw [List.getElem?_append_left (by rw [h.ml, ← h.rl]; exact hri)] at hm
      have hp := h.rep r rb mb hr hm
      have l1 := h.lo rb (.inl (List.mem_of_getElem? hr))
      have l2 := h.lo mb (.inr (List.mem_of_getElem? hm))
      refine hp.keep ?_ ?_
      · rw [heap_set_other (by rintro rfl; have := hp.rep.blk; rw [h.net] at this; cases this), hst rb (by omega) (fun e => ((h.row e).2 r rb mb hr hm).1 rfl)]
        exact hb.block _ l1.2
      · rw [heap_set_other (by rintro rfl; obtain ⟨_, _, q, _⟩ := hp.own; rw [h.net] at q; cases q), hst mb (by omega) (fun e => ((h.row e).2 r rb mb hr hm).2 rfl)]
        exact hb.block _ l2.2
    · rw [List.getElem?_append_right (by omega)] at hr
      rw [List.getElem?_append_right (by rw [h.ml, ← h.rl]; omega)] at hm
      have er : r = i := by
        have := (List.getElem?_eq_some_iff.1 hr).1
        simp at this
        have := h.rl
        omega
      subst er
      rw [h.rl] at hr
      rw [h.ml] at hm
      simp at hr hm
      subst hr
      subst hm
      refine hz.keep ?_ ?_
      · rw [heap_set_other (by simp only; omega), hst _ (by omega) (fun e => by have := hcl _ e; omega)]
      · rw [heap_set_other (by simp only; omega), hst _ (by omega) (fun e => by have := hcl _ e; omega)]
  · rw [List.nodup_append]
    refine ⟨h.mnd, by simp, fun a ha b hb' => ?_⟩
    simp at hb'
    have := (h.lo a (.inr ha)).2
    omega
  · intro k hk
    rw [hs2]
    have hw := h.below.size
    rcases hk with hk | hk
    · rcases List.mem_append.1 hk with hk | hk
      · have := h.lo k (.inl hk); omega
      · simp at hk; omega
    · rcases List.mem_append.1 hk with hk | hk
      · have := h.lo k (.inr hk); omega
      · simp at hk; omega

theorem nodup_of {l : List Nat} (h : ∀ (i j a : Nat), l[i]? = some a → l[j]? = some a → i = j) : l.Nodup := by
  unfold List.Nodup
  rw [List.pairwise_iff_getElem]
  intro i j hi hj hij e
  have := h i j l[i] (List.getElem?_eq_getElem hi) (by rw [e]; exact List.getElem?_eq_getElem hj)
  omega

theorem Prt.done {w0 w : World} {n : Nat} {cw : Value} {rbs mbs : List Nat} (h : Prt w0 w n cw rbs mbs) (h1 : 1 ≤ n) (h6 : n ≤ 6) : ∃ P : PN, PNet w w0.heap.size P (newAbs n) ∧ (∀ k, P.mem w0.heap.size k → w0.heap.size ≤ k) := by
  obtain ⟨g, cap, ec, hgl, hgs⟩ := World.ownsRow.form h.c (by omega)
  have hrow := h.row (g := g) (by rw [ec]; rfl)
  have hm : ∀ r rb, rbs[r]? = some rb → ∃ mb, mbs[r]? = some mb := fun r rb hr => ⟨_, List.getElem?_eq_getElem (by have := (List.getElem?_eq_some_iff.1 hr).1; have := h.rl; have := h.ml; omega)⟩
  have hr : ∀ r mb, mbs[r]? = some mb → ∃ rb, rbs[r]? = some rb := fun r rb hr => ⟨_, List.getElem?_eq_getElem (by have := (List.getElem?_eq_some_iff.1 hr).1; have := h.rl; have := h.ml; omega)⟩
  have hc := h.c
  rw [ec] at hc
  have hmem : ∀ k, k ∈ rbs → ∃ r mb, rbs[r]? = some k ∧ mbs[r]? = some mb := fun k hk => by
    obtain ⟨r, hr'⟩ := List.getElem?_of_mem hk
    obtain ⟨mb, hmb⟩ := hm r k hr'
    exact ⟨r, mb, hr', hmb⟩
  have hmem' : ∀ k, k ∈ mbs → ∃ r rb, rbs[r]? = some rb ∧ mbs[r]? = some k := fun k hk => by
    obtain ⟨r, hr'⟩ := List.getElem?_of_mem hk
    obtain ⟨rb, hrb⟩ := hr r k hr'
    exact ⟨r, rb, hrb, hr'⟩
  refine ⟨⟨g, rbs, mbs⟩, ⟨⟨⟨cap, by rw [h.net, ec]; rfl⟩, h.rl, fun r b hb => ?_, h6⟩, h.ml, h1, fun r rb mb a b => ⟨[], h.rep r rb mb a b, rfl⟩, ?_, ?_⟩, ?_⟩
  · have hb' : rbs[r]? = some b := hb
    have hlt := (List.getElem?_eq_some_iff.1 hb').1
    have hrl := h.rl
    rw [World.ownsRow.cellAt hc r (by omega), List.getElem?_map, hb']
    rfl
  · rw [List.nodup_cons, List.nodup_cons, List.nodup_append]
    refine ⟨?_, ?_, ?_, h.mnd, ?_⟩
    · simp only [List.mem_cons, List.mem_append, not_or]
      refine ⟨fun e => hrow.1 e.symm, fun hk => ?_, fun hk => ?_⟩
      · obtain ⟨r, mb, a, b⟩ := hmem _ hk
        have := (h.rep r _ mb a b).rep.blk
        rw [h.net] at this
        cases this
      · obtain ⟨r, rb, a, b⟩ := hmem' _ hk
        obtain ⟨_, _, q, _⟩ := (h.rep r rb _ a b).own
        rw [h.net] at q
        cases q
    · simp only [List.mem_append, not_or]
      refine ⟨fun hk => ?_, fun hk => ?_⟩
      · obtain ⟨r, mb, a, b⟩ := hmem _ hk
        exact (hrow.2 r _ mb a b).1 rfl
      · obtain ⟨r, rb, a, b⟩ := hmem' _ hk
        exact (hrow.2 r rb _ a b).2 rfl
    · apply nodup_of
      intro i j a hi hj
      obtain ⟨m1, q1⟩ := hm i a hi
      obtain ⟨m2, q2⟩ := hm j a hj
      have b1 := (h.rep i a m1 hi q1).rep.c0
      have b2 := (h.rep j a m2 hj q2).rep.c0
      rw [b1] at b2
      simp at b2
      omega
    · intro a ha b hb e
      obtain ⟨r, mb, q1, q2⟩ := hmem a ha
      obtain ⟨r', rb, q3, q4⟩ := hmem' b hb
      have b1 := (h.rep r a mb q1 q2).rep.blk
      obtain ⟨_, _, b2, _⟩ := (h.rep r' rb b q3 q4).own
      rw [← e, b1] at b2
      cases b2
  · intro k hk
    rcases hk with rfl | rfl | hk | hk
    · exact h.cell.2.2
    · exact hgs
    · exact (h.lo k (.inl hk)).2
    · exact (h.lo k (.inr hk)).2
  · intro k hk
    rcases hk with rfl | rfl | hk | hk
    · exact Nat.le_refl _
    · exact hgl
    · exact (h.lo k (.inl hk)).1
    · exact (h.lo k (.inr hk)).1

set_option maxHeartbeats 400000 in
theorem netNew_bad (n : Int) (w : World) (hn : n < 1 ∨ 6 < n) :
    Calls Tryz.prog 25 #[.int .i64 n] w fun e w' => e = .returned (.tuple #[.pointer none, .int .i64 1]) ∧ w' = w := by
  by_cases h1 : n < 1
  · have d1 : decide (n < 1) = true := by simp [h1]
    go_enter Tryz.func25, Tryz.ntmps25
    go_wp2
    go_ret2
    exact ⟨rfl, rfl⟩
  · have d1 : decide (n < 1) = false := by simp; omega
    have d2 : decide (6 < n) = true := by simp; omega
    go_enter Tryz.func25, Tryz.ntmps25
    go_wp2
    go_ret2
    exact ⟨rfl, rfl⟩

set_option maxRecDepth 100000 in
set_option maxHeartbeats 1000000 in
theorem netNew_ok (n : Nat) (w : World) (h1 : 1 ≤ n) (h6 : n ≤ 6) :
    Calls Tryz.prog 25 #[.int .i64 n] w fun e w' => e = .returned (.tuple #[.pointer (some ⟨w.heap.size, 0, none⟩), .int .i64 0]) ∧ ∃ P : PN, PNet w' w.heap.size P (newAbs n) ∧ (∀ k, P.mem w.heap.size k → w.heap.size ≤ k) ∧ Below w.heap.size w w' := by
  have d1 : decide ((n : Int) < 1) = false := by simp; omega
  have d2 : decide ((6 : Int) < (n : Int)) = false := by simp; omega
  have P0 := hide (Prt.start w)
  go_enter Tryz.func25, Tryz.ntmps25
  go_wp2
  clear d1 d2
  go_loopw [15] (fun iv wr => ∃ i : Nat, i ≤ n ∧ iv = .int .i64 i ∧ ∃ cw rbs mbs, Hid (Prt w wr i cw rbs mbs)) (fun iv _ => n - (intOf iv).toNat)
  case atStart => exact ⟨0, Nat.zero_le _, rfl, _, _, _, P0⟩
  case round =>
    obtain ⟨i, hi, rfl, cw, rbs, mbs, hP⟩ := hrel
    by_cases hlt : i < n
    · obtain ⟨c0, f0, hbl⟩ := hP.out.cell
      have hbz := hP.out.below.size
      go_wp2_with fail
      go_region_law (first
        | (go_simp; go_at_call 48; refine (pnew_any i (by omega) _).mono ?_; rintro e wz ⟨rfl, hozr, hbzr, hszr⟩; have hbzz := hide (⟨hbzr.os, hbzr.tape, hbzr.output, hbzr.size, hbzr.block⟩ : Below wr.heap.size wr wz); have hoz : Hid (PRep wz (wr.heap.size + 1) i wr.heap.size 0 []) := hozr; have hsz : Hid (wz.heap.size = wr.heap.size + 2) := hszr; clear hozr hszr; have z0 : wz.cell? ⟨w.heap.size, 0, none⟩ = some cw := (hbzz.out.cell (p := ⟨w.heap.size, 0, none⟩) hbl).trans c0; have hzz := hbzz.out.size; have z3 : ∀ o, (wz.alloc o).cell? ⟨w.heap.size, 0, none⟩ = some cw := fun o => (World.cell?_alloc_old wz o ⟨w.heap.size, 0, none⟩ (by simp only; omega)).trans z0; dsimp only)
        | (refine step_app_ptr _ (by rfl) (.tmp 22) (.tmp 25) (by rfl) w.heap.size cw i (rbs.map ptr) (by rfl) ((ownsRow_keep hP.out.c (fun k hk => hbzz.out.block k (World.ownsRow.lt hP.out.c k hk).2)).alloc _) wz.heap.size ⟨wr.heap.size + 1, 0, none⟩ (by rfl) (by simp) (by omega) (by simp; omega) ?_; intro g2 cp w1 ho2 hgr2 hat2 hl2; obtain ⟨_, e2, e3⟩ := hP.out.net1 hbzz.out hgr2))
      all_goals
        have HP1 := hide (hP.out.add hbzz.out hoz.out hsz.out _ g2 cp ho2 hgr2 hat2)
        clear ho2 hgr2 hat2 hl2 e2 e3 hoz hsz hbzr z0 z3 hzz c0 f0
        generalize hW : w1.setCell ⟨w.heap.size, 0, none⟩ (.slice (some ⟨g2, 0, none⟩) (i + 1) cp) = W at *
        clear hW
        go_wp2
        go_roundw
        case rel => exact ⟨i + 1, by omega, by go_num, _, _, _, HP1⟩
        case measure => simp [intOf]; omega
    · have ei : i = n := by omega
      subst ei
      obtain ⟨P, hPN, hlo⟩ := hP.out.done h1 h6
      have HPN := hide hPN
      have HLO := hide hlo
      clear hPN hlo
      go_wp2
      go_ret2
      exact ⟨rfl, P, HPN.out, HLO.out, hP.out.below⟩

end Go.Proofs.YtaelaldmibgibaaGreatDoor
