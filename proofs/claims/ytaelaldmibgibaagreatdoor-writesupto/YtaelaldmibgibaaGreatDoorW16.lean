/- The document's answer: kept, Look. The document's answer: New. The document's answer: New. The document's answer: Read of a path that was spoken of before: nothing turns. -/
import Derived.Test.YtaelaldmibgibaaGreatDoorW13
import Derived.Deep.RegionLaw

set_option linter.unusedVariables false
set_option linter.unusedSimpArgs false

namespace Go.Proofs.YtaelaldmibgibaaGreatDoor
open Go.RowKit
attribute [local go_sem ↓] Go.wp_at_zero Go.wp_at_succ

theorem size_State : (Tryz.prog.info? 166).map (·.size) = some 3 := by kernel_rfl
theorem stState (p v : Value) : Instr.storeAt 166 p v = stM 166 p v := rfl
theorem run_stState (w : World) (b : Nat) (x0 x1 x2 : Int) (ht : w.there b 0 3) :
    (stM 166 (.pointer (some ⟨b, 0, none⟩)) (.agg #[.int .i64 x0, .int .i64 x1, .int .i64 x2])).run Tryz.prog w = .ok () (w.setCells b 0 [.int .i64 x0, .int .i64 x1, .int .i64 x2]) :=
  run_storeAt_mid w b 0 _ #[.int .i64 x0, .int .i64 x1, .int .i64 x2] ht size_State (by simp [Value.oneCell'])

set_option maxHeartbeats 600000 in
theorem kept_any (b q i : Nat) (ρ : Nat → Nat × Nat) (S : RS) (A : Abs) (w : World) (h : RefRep w b ρ S) (hI : RInv S A) (hq : q < S.n) (v : Value) (l : List SP) (hx : S.rows[q]? = some (v, l)) (s : SP) (hks : l[i]? = some s) :
    Calls Tryz.prog 94 #[.pointer (some ⟨b, 0, none⟩), .int .i64 q, .int .i64 i] w fun e w' => e = .returned (.bool s.there) ∧ ∃ nq, w' = w.drewN nq := by
  obtain ⟨g, cap, gc, cc, gt, ct, rfl, _, ec, et, q0, _, _, _, _, q5⟩ := h.six q v l hx i s hks
  obtain ⟨sg, sc, v', l', es, hs, hx', _⟩ := h.theRow q hq
  rw [hx] at hx'
  simp at hx'
  obtain ⟨rfl, rfl⟩ := hx'
  obtain ⟨cg, c1, gg, c2, c, ecv, hcc, hcx, hcl, _, _, _, _, _, _⟩ := h.common q hq
  have b2 := h.c2
  rw [ecv] at b2
  have b3 := h.c3
  rw [es] at b3
  have hsp := h.sp q _ hx s (List.mem_of_getElem? hks)
  have htm : s.tm = c := hI.tm q _ l _ c hx hcx s (List.mem_of_getElem? hks)
  have hn1 := h.n1
  have hn6 := h.n6
  have hil : i < l.length := (List.getElem?_eq_some_iff.1 hks).1
  have hml : l.length ≤ maxLen := by
    rcases (h.row q _ hx).1.2 with ⟨_, h0⟩ | ⟨_, cap', _, _, _, _, hc, hm, _⟩
    · simp only at h0; omega
    · simp only at hc; omega
  unfold maxLen at hml
  have hT := hsp.tm
  rw [et, htm] at hT
  have hC := (h.com q _ hcx).1
  simp only at hC
  have EQ : Hid (∀ nq, Calls Tryz.prog 164 #[.slice (some ⟨gt, 0, none⟩) S.n ct, .slice (some ⟨gg, 0, none⟩) S.n c2] (w.drewN nq) fun e w' => e = .returned (.bool true) ∧ ∃ m, w' = (w.drewN nq).drewN m) := by
    intro nq
    have := equal_any _ _ c c (w.drewN nq) (ownsRow_keep hT (fun _ _ => rfl)) (ownsRow_keep hC (fun _ _ => rfl)) rfl (by omega) (by omega)
    simpa using this
  clear hT hC hsp htm hcx hx es ecv h hI hks ec et
  generalize S.n = n at *
  go_enter Tryz.func94, Tryz.ntmps94
  go_wp2
  go_quiet ((go_at_call 164; exact Calls.quiet_of (EQ.out _)))
  cases ht : s.there with
  | true =>
    rw [ht] at q0
    go_wp2
    go_ret
    exact ⟨ret_bool ht.symm, _, rfl⟩
  | false =>
    rw [ht] at q0
    go_wp2
    go_ret
    exact ⟨ret_bool ht.symm, _, rfl⟩

def Abs.lookE (A : Abs) (r : Int) : Int := if A.out r = true then 1 else 0
/-- count, files, records -/
def Abs.lookV (A : Abs) (r : Int) : Value := if A.out r = true then .agg #[.int .i64 0, .int .i64 0, .int .i64 0] else .agg #[.int .i64 (A.c r.toNat), .int .i64 (A.F r.toNat).length, .int .i64 (A.F r.toNat).length]

attribute [local go_sem ↓] stState
attribute [local go_sem] run_stState

theorem mine_drewN {w : World} {k n : Nat} {W : World} (h : Mine w k n W) (m : Nat) : Mine w k n (W.drewN m) := ⟨⟨h.below.os, h.below.tape, h.below.output, h.below.size, h.below.block⟩, h.ge, h.lt, h.some, h.fz⟩
theorem ret_look {a b : Value} {x y : Int} (h : a = b) (h' : x = y) : Ending.returned (.tuple #[a, .int .i64 x]) = .returned (.tuple #[b, .int .i64 y]) := by rw [h, h']

set_option maxRecDepth 100000 in
set_option maxHeartbeats 1000000 in
theorem refLook_any (b : Nat) (r : Int) (ρ : Nat → Nat × Nat) (S : RS) (A : Abs) (w : World) (h : RefRep w b ρ S) (hI : RInv S A) (hm : S.paths.length ≤ 100000000) :
    Calls Tryz.prog 87 #[.pointer (some ⟨b, 0, none⟩), .int .i64 r] w fun e w' => e = .returned (.tuple #[A.lookV r, .int .i64 (A.lookE r)]) ∧ Below w.heap.size w w' := by
  have b0 := h.c0
  have hbl : b < w.heap.size := h.lt b (by rw [h.rb]; decide)
  have M0 := Mine.made' w #[.int .i64 0, .int .i64 0, .int .i64 0] 166 (n := 3) rfl
  cases ho : A.out r with
  | true =>
    have e1 : A.lookE r = 1 := by unfold Abs.lookE; rw [if_pos ho]
    have e2 : A.lookV r = .agg #[.int .i64 0, .int .i64 0, .int .i64 0] := by unfold Abs.lookV; rw [if_pos ho]
    rw [e1, e2]
    unfold Abs.out at ho
    rw [hI.n] at ho
    simp at ho
    clear h hI e1 e2
    have MT := M0.there
    have MB := hide M0
    clear M0
    generalize S.n = n at *
    by_cases h1 : r < 0
    · have d1 : decide (r < 0) = true := by simp [h1]
      go_enter Tryz.func87, Tryz.ntmps87
      go_wp2
      exact bodyPost_ret (ret_cell_tmp Tryz.results87 (a := ⟨w.heap.size, 0, none⟩) rfl (load_stored (cs := [_, _, _]) MB.out.there Tryz.underlying166 rfl size_State)) rfl ⟨rfl, (Mine.setCells (p := True) ⟨MB.out, trivial⟩ 0 _).below⟩
    · have d1 : decide (r < 0) = false := by simp; omega
      have h2 : (n : Int) ≤ r := by omega
      clear ho
      go_enter Tryz.func87, Tryz.ntmps87
      go_wp2
      exact bodyPost_ret (ret_cell_tmp Tryz.results87 (a := ⟨w.heap.size, 0, none⟩) rfl (load_stored (cs := [_, _, _]) MB.out.there Tryz.underlying166 rfl size_State)) rfl ⟨rfl, (Mine.setCells (p := True) ⟨MB.out, trivial⟩ 0 _).below⟩
  | false =>
    have e1 : A.lookE r = 0 := by unfold Abs.lookE; rw [if_neg (by rw [ho]; simp)]
    have e2 : A.lookV r = .agg #[.int .i64 (A.c r.toNat), .int .i64 (A.F r.toNat).length, .int .i64 (A.F r.toNat).length] := by unfold Abs.lookV; rw [if_neg (by rw [ho]; simp)]
    rw [e1, e2]
    obtain ⟨q, rfl, hq⟩ := out_nat ho
    rw [Int.toNat_natCast]
    have hqn : q < S.n := by rw [← hI.n]; exact hq
    have hn6 := h.n6
    obtain ⟨hml, a, cap, ep, hcp⟩ := strRow_form h.p
    have b1 := h.c1
    rw [ep] at b1
    obtain ⟨sg, sc, v, l, es, hs, hx, hrow, hro, hsg, _, _⟩ := h.theRow q hqn
    have hll := hI.len q _ hx
    simp only at hll
    have HFL : Hid ((A.F q).length = filesOf l) := by unfold Hid; rw [hI.files q v l hx, rowF_length _ _ (by omega)]
    obtain ⟨cg, c1, gg, c2, c, ecv, hcc, hcx, hcl, _, hgg, hcg, _, hcell, _⟩ := h.common q hqn
    have b2 := h.c2
    rw [ecv] at b2
    have hcnt := (hI.cnt q hqn).1
    have hcount : S.count q = c.getD q 0 := by unfold RS.count; rw [hcx]; rfl
    have bq := hcell q hqn
    rw [← hcount, ← hcnt] at bq
    have KE := hide (fun (W : World) (hM : Mine w w.heap.size 3 W) (k : Nat) s (hk : l[k]? = some s) => kept_any b q k ρ S A W (h.below hM.below) hI hqn v l hx s hk)
    have FI := hide (fun (W : World) (hM : Mine w w.heap.size 3 W) => files_any b q ρ S W (h.below hM.below) hqn)
    have CE := hide (fun (W : World) (hM : Mine w w.heap.size 3 W) => (⟨hM, (hM.below.cell (p := ⟨b, 2, none⟩) hbl).trans b2, (hM.below.cell (p := ⟨cg, q, none⟩) hcg).trans hcc, (hM.below.cell (p := ⟨gg, q, none⟩) hgg).trans bq, hM.there⟩ :
      Mine w w.heap.size 3 W ∧ W.cell? ⟨b, 2, none⟩ = some (.slice (some ⟨cg, 0, none⟩) S.n c1) ∧ W.cell? ⟨cg, q, none⟩ = some (.slice (some ⟨gg, 0, none⟩) S.n c2) ∧ W.cell? ⟨gg, q, none⟩ = some (.int .i64 (A.c q)) ∧ W.there w.heap.size 0 3))
    have HLL := hide hll
    have HXX := hide hx
    have MB := hide M0
    unfold maxLen at hml
    have hc9 := (hI.cnt q hqn).2
    clear h hI ho hq e1 e2 ep es hx hrow hro hcp hll M0 ecv hcx hcl hcell hcnt hcount bq hcc b2 hs
    have d1 : decide ((q : Int) < 0) = false := by simp
    generalize hN : S.n = n at *
    clear hN
    have d2 : decide (n ≤ q) = false := by simp; omega
    go_enter Tryz.func87, Tryz.ntmps87
    go_wp2
    clear d1 d2
    go_loopw [6, 7] (fun t i wr => ∃ k : Nat, k ≤ S.paths.length ∧ i = .int .i64 k ∧ t = .int .i64 (filesOf (l.take k)) ∧ Hid (Mine w w.heap.size 3 wr)) (fun _ i _ => S.paths.length - (intOf i).toNat)
    case atStart => exact ⟨0, Nat.zero_le _, rfl, by simp [filesOf], MB⟩
    case round =>
      obtain ⟨k, hk, rfl, rfl, hM⟩ := hrel
      have b1w : wr.cell? ⟨b, 1, none⟩ = some (.slice a S.paths.length cap) := (hM.out.below.cell (p := ⟨b, 1, none⟩) hbl).trans b1
      have hfl := filesOf_le (l.take k)
      have hfl2 : (l.take k).length ≤ k := List.length_take_le _ _
      generalize hf : filesOf (l.take k) = f at *
      have HF := hide hf
      clear hf
      generalize hL : (l.take k).length = L at *
      clear hL
      by_cases hlt : k < S.paths.length
      · have hkl : k < l.length := by rw [HLL.out]; exact hlt
        obtain ⟨s, hks⟩ : ∃ s, l[k]? = some s := ⟨l[k], List.getElem?_eq_getElem hkl⟩
        have F := hide (filesOf_take_succ l k s hks)
        have K := hide (KE.out wr hM.out k s hks)
        clear hks b1
        cases ht : s.there with
        | true =>
          rw [ht] at K F
          rw [if_pos rfl, HF.out] at F
          clear ht
          go_wp2_with (go_at_call 94; refine K.out.mono ?_; rintro e w' ⟨rfl, nq, rfl⟩)
          go_roundw
          case rel => exact ⟨k + 1, by omega, by go_num, by rw [F.out]; go_num, mine_drewN hM.out nq⟩
          case measure => simp [intOf]; omega
        | false =>
          rw [ht] at K F
          rw [if_neg (by simp), HF.out] at F
          clear ht
          go_wp2_with (go_at_call 94; refine K.out.mono ?_; rintro e w' ⟨rfl, nq, rfl⟩)
          go_roundw
          case rel => exact ⟨k + 1, by omega, by go_num, by rw [F.out]; go_num, mine_drewN hM.out nq⟩
          case measure => simp [intOf]; omega
      · have E : Hid (f = filesOf l) := by unfold Hid; rw [← HF.out, List.take_of_length_le (by rw [HLL.out]; omega)]
        clear b1 HF
        go_wp2_with fail
        have start := CE.out wr.drew hM.out.drew
        go_region_held3 (fun W => Mine w w.heap.size 3 W ∧ W.cell? ⟨b, 2, none⟩ = some (.slice (some ⟨cg, 0, none⟩) n c1) ∧ W.cell? ⟨cg, q, none⟩ = some (.slice (some ⟨gg, 0, none⟩) n c2) ∧ W.cell? ⟨gg, q, none⟩ = some (.int .i64 (A.c q)) ∧ W.there w.heap.size 0 3)
          (first | (refine CE.out _ ?_; first | with_reducible exact Mine.setCells (by assumption) _ _ | with_reducible exact And.left (by assumption)))
          (first | (go_at_call 60; refine (FI.out _ (And.left (by assumption))).mono ?_; rintro e w' ⟨v0, l0, hx0, rfl, rfl⟩; rw [HXX.out] at hx0; simp at hx0; obtain ⟨rfl, rfl⟩ := hx0))
        go_wp2
        refine bodyPost_ret (ret_cell_tmp Tryz.results87 (a := ⟨w.heap.size, 0, none⟩) rfl (load_stored (cs := [_, _, _]) start.1.there Tryz.underlying166 rfl size_State)) rfl ⟨?_, (Mine.setCells (p := True) ⟨start.1, trivial⟩ 0 _).below⟩
        exact ret_look (by rw [HFL.out, E.out]) rfl

end Go.Proofs.YtaelaldmibgibaaGreatDoor

namespace Go.Proofs.YtaelaldmibgibaaGreatDoor
open Go.RowKit
attribute [local go_sem ↓] Go.wp_at_zero Go.wp_at_succ

theorem info_ints : (Tryz.prog.info? 58).map (fun i => (i.zero, i.size, i.bytes)) = some (some (.slice none 0 0), 1, 24) := by kernel_rfl
theorem info_spots : (Tryz.prog.info? 112).map (fun i => (i.zero, i.size, i.bytes)) = some (some (.slice none 0 0), 1, 24) := by kernel_rfl

/-- c = append(c, y), of lists of integers, in a region that draws -/
theorem step_app_ints {ops : Array Oper} {o : Oper} {a : Act} {K : Act → World → Prop} {Q : Exit → Act → World → Prop} {E : Prop} (w : World) (hgd : o.guard = none) (s x : Operand) (ho : o.op = .call { callee := .builtin .append, args := #[s, x], argTypes := #[100, 100] }) (base : Nat) (v : Value) (n : Nat) (xs : List Value) (hs : a.eval s = v) (hown : w.ownsRow base 58 1 v n xs)
    (k : Nat) (ya : Option Addr) (yn yc : Nat) (hx : a.eval x = .slice (some ⟨k, 0, none⟩) 1 1) (hc : w.cell? ⟨k, 0, none⟩ = some (.slice ya yn yc)) (hn : n ≤ 1000000000000) (hb : base ≤ w.heap.size)
    (h : ∀ g cap w1, w1.ownsRow base 58 1 (.slice (some ⟨g, 0, none⟩) (n + 1) cap) (n + 1) (xs ++ [.slice ya yn yc]) → w.grownBy w1 v.ownBlock → (v.ownBlock = some g ∨ g = w.heap.size) → g < w1.heap.size → K (a.put o.dst (.slice (some ⟨g, 0, none⟩) (n + 1) cap)) w1) :
    if Region.wanted o (yielded ops a.tmps) = true then Oper.wp Tryz.prog o a w K Q else E := by
  obtain ⟨i0, hi, hz0, hz1, hz2⟩ := info_parts info_ints
  refine step_append_lies w hgd s x 100 ho base 58 i0 _ 1 24 Tryz.underlying100 hi hz0 hz1 hz2 rfl (by decide) v n xs hs hown ⟨k, 0, none⟩ 1 1 [.slice ya yn yc] hx rfl ?_ ?_ (by omega) (by unfold maxLen; omega) (by omega) hb _ rfl h
  · intro j u hj
    match j, hj with
    | 0, hj => simp at hj; subst hj; simpa [Addr.add] using hc
  · intro u hu; simp at hu; subst hu; rfl
theorem app_spots {ops : Array Oper} {rest : List Oper} {o : Oper} {a : Act} {Q : Exit → Act → World → Prop} (w : World) (hgd : o.guard = none) (s x : Operand) (ho : o.op = .call { callee := .builtin .append, args := #[s, x], argTypes := #[101, 101] }) (base : Nat) (v : Value) (n : Nat) (xs : List Value) (hs : a.eval s = v) (hown : w.ownsRow base 112 1 v n xs)
    (k : Nat) (ya : Option Addr) (yn yc : Nat) (hx : a.eval x = .slice (some ⟨k, 0, none⟩) 1 1) (hc : w.cell? ⟨k, 0, none⟩ = some (.slice ya yn yc)) (hn : n ≤ 1000000000000) (hb : base ≤ w.heap.size)
    (h : ∀ g cap w1, w1.ownsRow base 112 1 (.slice (some ⟨g, 0, none⟩) (n + 1) cap) (n + 1) (xs ++ [.slice ya yn yc]) → w.grownBy w1 v.ownBlock → (v.ownBlock = some g ∨ g = w.heap.size) → g < w1.heap.size → wpList Tryz.prog ops Q rest (a.put o.dst (.slice (some ⟨g, 0, none⟩) (n + 1) cap)) w1) :
    wpList Tryz.prog ops Q (o :: rest) a w := by
  obtain ⟨i0, hi, hz0, hz1, hz2⟩ := info_parts info_spots
  refine wpList_append_lies w hgd s x 101 ho base 112 i0 _ 1 24 Tryz.underlying101 hi hz0 hz1 hz2 rfl (by decide) v n xs hs hown ⟨k, 0, none⟩ 1 1 [.slice ya yn yc] hx rfl ?_ ?_ (by omega) (by unfold maxLen; omega) (by omega) hb _ rfl h
  · intro j u hj
    match j, hj with
    | 0, hj => simp at hj; subst hj; simpa [Addr.add] using hc
  · intro u hu; simp at hu; subst hu; rfl

/-- a net in the making: ci of its common times, si of its rows are there -/
structure Part (w0 w : World) (b n ci si : Nat) (ρ : Nat → Nat × Nat) (cw sw : Value) (cs : List Value) : Prop where
  below : Below w0.heap.size w0 w
  net : w.heap[b]? = some (.cells #[.int .i64 n, .slice none 0 0, cw, sw] 103 (0, 0))
  len : cs.length = ci
  c : w.ownsRow w0.heap.size 58 1 cw ci cs
  s : w.ownsRow w0.heap.size 112 1 sw si (List.replicate si (.slice none 0 0))
  com : ∀ r v, cs[r]? = some v → w.ownsRow w0.heap.size 3 1 v n (ivs (List.replicate n 0)) ∧ role ρ v (4, r)
  rb : ρ b = (1, 0)
  rc : role ρ cw (3, 0)
  rs : role ρ sw (8, 0)
  lt : ∀ k, (ρ k).1 ≠ 0 → k < w.heap.size ∧ w0.heap.size ≤ k

theorem Part.rep {w0 w : World} {b n : Nat} {ρ : Nat → Nat × Nat} {cw sw : Value} {cs : List Value} (h : Part w0 w b n n n ρ cw sw cs) (h1 : 1 ≤ n) (h6 : n ≤ 6) :
    RefRep w b ρ { n := n, paths := [], pv := .slice none 0 0, cv := cw, sv := sw, coms := cs.map (fun v => (v, List.replicate n 0)), rows := List.replicate n (.slice none 0 0, []) } where
  net := h.net
  n1 := h1
  n6 := h6
  p := World.ownsRow_nil _ _ _ _
  c := by
    have e : (cs.map (fun v => (v, List.replicate n (0 : Int)))).map (·.1) = cs := by rw [List.map_map]; exact List.map_id' cs
    rw [e]
    exact ownsRow_base h.c (fun _ _ => Nat.zero_le _)
  s := by
    rw [List.map_replicate]
    exact ownsRow_base h.s (fun _ _ => Nat.zero_le _)
  com := by
    intro r x hx
    rw [List.getElem?_map] at hx
    cases hc : cs[r]? with
    | none => rw [hc] at hx; cases hx
    | some v =>
      rw [hc] at hx
      simp at hx
      subst hx
      refine ⟨?_, by simp, (h.com r v hc).2⟩
      unfold intRow
      simp only [List.length_replicate]
      exact ownsRow_base (h.com r v hc).1 (fun _ _ => Nat.zero_le _)
  row := by
    intro r x hx
    have := List.mem_of_getElem? hx
    rw [List.mem_replicate] at this
    obtain ⟨_, rfl⟩ := this
    exact ⟨World.ownsRow_nil _ _ _ _, fun k hk => by cases hk⟩
  sp := by
    intro r x hx y hy
    have := List.mem_of_getElem? hx
    rw [List.mem_replicate] at this
    obtain ⟨_, rfl⟩ := this
    cases hy
  rb := h.rb
  rp := fun k hk => by cases hk
  rc := h.rc
  rs := h.rs
  lt := fun k hk => (h.lt k hk).1

theorem Part.free {w0 w : World} {b n ci si : Nat} {ρ : Nat → Nat × Nat} {cw sw : Value} {cs : List Value} (h : Part w0 w b n ci si ρ cw sw cs) {k : Nat} (hk : w.heap.size ≤ k) : (ρ k).1 = 0 := by
  by_cases e : (ρ k).1 = 0
  · exact e
  · have := (h.lt k e).1; omega

/-- one common time more -/
theorem Part.addCom {w0 w wz w1 : World} {b n i si : Nat} {ρ : Nat → Nat × Nat} {cw sw : Value} {cs : List Value} (h : Part w0 w b n i si ρ cw sw cs) (hb : Below w.heap.size w wz) (gz cz : Nat) (hz : wz.ownsRow w.heap.size 3 1 (.slice (some ⟨gz, 0, none⟩) n cz) n (ivs (List.replicate n 0))) (hzl : w.heap.size ≤ gz) (hzl' : gz < wz.heap.size) (o : Obj) (g cap : Nat)
    (ho : w1.ownsRow w0.heap.size 58 1 (.slice (some ⟨g, 0, none⟩) (i + 1) cap) (i + 1) (cs ++ [.slice (some ⟨gz, 0, none⟩) n cz])) (hg : (wz.alloc o).grownBy w1 cw.ownBlock) (hat : cw.ownBlock = some g ∨ g = (wz.alloc o).heap.size) :
    ∃ ρ', Part w0 (w1.setCell ⟨b, 2, none⟩ (.slice (some ⟨g, 0, none⟩) (i + 1) cap)) b n (i + 1) si ρ' (.slice (some ⟨g, 0, none⟩) (i + 1) cap) sw (cs ++ [.slice (some ⟨gz, 0, none⟩) n cz]) := by
  have hbl : b < w.heap.size := (h.lt b (by rw [h.rb]; decide)).1
  have hb0 : w0.heap.size ≤ b := (h.lt b (by rw [h.rb]; decide)).2
  have hwz := hb.size
  have hg01 := World.ownsRow.lt ho g rfl
  have hgcase : (ρ g = (3, 0) ∧ g < w.heap.size) ∨ wz.heap.size ≤ g := by
    rcases hat with q | q
    · exact .inl ⟨h.rc g q, (World.ownsRow.lt h.c g q).2⟩
    · right; rw [q]; simp
  have hgz : gz ≠ g := by rcases hgcase with ⟨_, q⟩ | q <;> omega
  have hbg : b ≠ g := by
    rcases hgcase with ⟨q, _⟩ | q
    · rintro rfl; rw [h.rb] at q; simp at q
    · omega
  have hbz : b ≠ gz := by omega
  have hρ : ∀ k, (ρ k).1 ≠ 0 → ρ k ≠ (3, 0) → upd (upd ρ gz (4, i)) g (3, 0) k = ρ k := by
    intro k h1 h2
    unfold upd
    rw [if_neg, if_neg]
    · rintro rfl; exact h1 (h.free hzl)
    · rintro rfl
      rcases hgcase with ⟨q, _⟩ | q
      · exact h2 q
      · exact h1 (h.free (by omega))
  have hrole : ∀ v x, role ρ v x → x.1 ≠ 0 → x ≠ (3, 0) → role (upd (upd ρ gz (4, i)) g (3, 0)) v x := fun v x hr h1 h2 k hk => by
    rw [hρ k (by rw [hr k hk]; exact h1) (by rw [hr k hk]; exact h2)]; exact hr k hk
  have hstep : ∀ k, k < wz.heap.size → cw.ownBlock ≠ some k → w1.heap[k]? = wz.heap[k]? := fun k hk hc => by
    rw [hg.block k (by simp; omega) (fun e => hc e.symm)]; exact Below.heap_alloc _ _ _ hk
  have hkeep : ∀ k, (ρ k).1 ≠ 0 → ρ k ≠ (3, 0) → k ≠ b → (w1.setCell ⟨b, 2, none⟩ (.slice (some ⟨g, 0, none⟩) (i + 1) cap)).heap[k]? = w.heap[k]? := fun k h1 h2 h3 => by
    have hk := (h.lt k h1).1
    rw [heap_set_other h3, hstep k (by omega) (fun e => h2 (h.rc k e))]
    exact hb.block k hk
  have hnb : w1.heap[b]? = w.heap[b]? := by
    rw [hstep b (by omega) (fun e => by have := h.rc b e; rw [h.rb] at this; simp at this)]
    exact hb.block b hbl
  have hbw : Below w0.heap.size w0 w1 := by
    have h1 := h.below.trans (hb.mono h.below.size)
    exact (h1.alloc h1.size o).grown hg (by simp; have := h1.size; omega) (fun k hk => (World.ownsRow.lt h.c k hk).1)
  refine ⟨upd (upd ρ gz (4, i)) g (3, 0), hbw.setCell hb0 _, ?_, by simp [h.len], ownsRow_keep ho (fun k hk => heap_set_other (by simp [Value.ownBlock] at hk; subst hk; exact Ne.symm hbg)), ?_, ?_, by rw [hρ b (by rw [h.rb]; decide) (by rw [h.rb]; decide)]; exact h.rb, ?_, hrole sw _ h.rs (by decide) (by decide), ?_⟩
  · have := heap_setCell_same w1 b 2 _ _ (.slice (some ⟨g, 0, none⟩) (i + 1) cap) (hnb.trans h.net)
    simpa using this
  · exact ownsRow_keep h.s (fun k hk => hkeep k (by rw [h.rs k hk]; decide) (by rw [h.rs k hk]; decide) (by rintro rfl; have := h.rs k hk; rw [h.rb] at this; simp at this))
  · intro r v hv
    by_cases hr : r < cs.length
    · rw [List.getElem?_append_left hr] at hv
      have q := h.com r v hv
      exact ⟨ownsRow_keep q.1 (fun k hk => hkeep k (by rw [q.2 k hk]; simp) (by rw [q.2 k hk]; simp) (by rintro rfl; have := q.2 k hk; rw [h.rb] at this; simp at this)), hrole v _ q.2 (by simp) (by simp)⟩
    · rw [List.getElem?_append_right (by omega)] at hv
      have hr' : r = cs.length := by
        have := (List.getElem?_eq_some_iff.1 hv).1
        simp at this; omega
      subst hr'
      simp at hv
      subst hv
      refine ⟨ownsRow_base (ownsRow_keep hz (fun k hk => ?_)) (fun k hk => ?_), ?_⟩
      · simp [Value.ownBlock] at hk
        subst hk
        rw [heap_set_other (Ne.symm hbz), hstep _ hzl' (fun e => by have := (World.ownsRow.lt h.c _ e).2; omega)]
      · simp [Value.ownBlock] at hk
        subst hk
        have := h.below.size
        omega
      · intro k hk
        simp [Value.ownBlock] at hk
        subst hk
        unfold upd
        rw [if_neg hgz, if_pos rfl, h.len]
  · intro k hk
    simp [Value.ownBlock] at hk
    subst hk
    unfold upd
    rw [if_pos rfl]
  · intro k hk
    rw [size_setCell]
    unfold upd at hk
    by_cases e1 : k = g
    · subst e1; exact ⟨hg01.2, hg01.1⟩
    · rw [if_neg e1] at hk
      by_cases e2 : k = gz
      · subst e2
        have := hg.size
        have := h.below.size
        simp at *
        omega
      · rw [if_neg e2] at hk
        have := h.lt k hk
        have := hg.size
        simp at *
        omega

/-- one row more, without spots -/
theorem Part.addRow {w0 w w1 : World} {b n ci i : Nat} {ρ : Nat → Nat × Nat} {cw sw : Value} {cs : List Value} (h : Part w0 w b n ci i ρ cw sw cs) (o : Obj) (g cap : Nat)
    (ho : w1.ownsRow w0.heap.size 112 1 (.slice (some ⟨g, 0, none⟩) (i + 1) cap) (i + 1) (List.replicate i (.slice none 0 0) ++ [.slice none 0 0])) (hg : (w.alloc o).grownBy w1 sw.ownBlock) (hat : sw.ownBlock = some g ∨ g = (w.alloc o).heap.size) :
    ∃ ρ', Part w0 (w1.setCell ⟨b, 3, none⟩ (.slice (some ⟨g, 0, none⟩) (i + 1) cap)) b n ci (i + 1) ρ' cw (.slice (some ⟨g, 0, none⟩) (i + 1) cap) cs := by
  have hbl : b < w.heap.size := (h.lt b (by rw [h.rb]; decide)).1
  have hb0 : w0.heap.size ≤ b := (h.lt b (by rw [h.rb]; decide)).2
  have hg01 := World.ownsRow.lt ho g rfl
  have hgcase : (ρ g = (8, 0) ∧ g < w.heap.size) ∨ w.heap.size ≤ g := by
    rcases hat with q | q
    · exact .inl ⟨h.rs g q, (World.ownsRow.lt h.s g q).2⟩
    · right; rw [q]; simp
  have hbg : b ≠ g := by
    rcases hgcase with ⟨q, _⟩ | q
    · rintro rfl; rw [h.rb] at q; simp at q
    · omega
  have hρ : ∀ k, (ρ k).1 ≠ 0 → ρ k ≠ (8, 0) → upd ρ g (8, 0) k = ρ k := by
    intro k h1 h2
    unfold upd
    rw [if_neg]
    rintro rfl
    rcases hgcase with ⟨q, _⟩ | q
    · exact h2 q
    · exact h1 (h.free q)
  have hrole : ∀ v x, role ρ v x → x.1 ≠ 0 → x ≠ (8, 0) → role (upd ρ g (8, 0)) v x := fun v x hr h1 h2 k hk => by
    rw [hρ k (by rw [hr k hk]; exact h1) (by rw [hr k hk]; exact h2)]; exact hr k hk
  have hstep : ∀ k, k < w.heap.size → sw.ownBlock ≠ some k → w1.heap[k]? = w.heap[k]? := fun k hk hc => by
    rw [hg.block k (by simp; omega) (fun e => hc e.symm)]; exact Below.heap_alloc _ _ _ hk
  have hkeep : ∀ k, (ρ k).1 ≠ 0 → ρ k ≠ (8, 0) → k ≠ b → (w1.setCell ⟨b, 3, none⟩ (.slice (some ⟨g, 0, none⟩) (i + 1) cap)).heap[k]? = w.heap[k]? := fun k h1 h2 h3 => by
    have hk := (h.lt k h1).1
    rw [heap_set_other h3, hstep k hk (fun e => h2 (h.rs k e))]
  have hnb : w1.heap[b]? = w.heap[b]? := hstep b hbl (fun e => by have := h.rs b e; rw [h.rb] at this; simp at this)
  have hbw : Below w0.heap.size w0 w1 :=
    (h.below.alloc h.below.size o).grown hg (by simp; have := h.below.size; omega) (fun k hk => (World.ownsRow.lt h.s k hk).1)
  refine ⟨upd ρ g (8, 0), hbw.setCell hb0 _, ?_, h.len, ?_, ?_, ?_, by rw [hρ b (by rw [h.rb]; decide) (by rw [h.rb]; decide)]; exact h.rb, hrole cw _ h.rc (by decide) (by decide), ?_, ?_⟩
  · have := heap_setCell_same w1 b 3 _ _ (.slice (some ⟨g, 0, none⟩) (i + 1) cap) (hnb.trans h.net)
    simpa using this
  · exact ownsRow_keep h.c (fun k hk => hkeep k (by rw [h.rc k hk]; decide) (by rw [h.rc k hk]; decide) (by rintro rfl; have := h.rc k hk; rw [h.rb] at this; simp at this))
  · rw [List.replicate_succ']
    exact ownsRow_keep ho (fun k hk => heap_set_other (by simp [Value.ownBlock] at hk; subst hk; exact Ne.symm hbg))
  · intro r v hv
    have q := h.com r v hv
    exact ⟨ownsRow_keep q.1 (fun k hk => hkeep k (by rw [q.2 k hk]; simp) (by rw [q.2 k hk]; simp) (by rintro rfl; have := q.2 k hk; rw [h.rb] at this; simp at this)), hrole v _ q.2 (by simp) (by simp)⟩
  · intro k hk
    simp [Value.ownBlock] at hk
    subst hk
    unfold upd
    rw [if_pos rfl]
  · intro k hk
    rw [size_setCell]
    unfold upd at hk
    by_cases e1 : k = g
    · subst e1; exact ⟨hg01.2, hg01.1⟩
    · rw [if_neg e1] at hk
      have := h.lt k hk
      have := hg.size
      simp at *
      omega

end Go.Proofs.YtaelaldmibgibaaGreatDoor

namespace Go.Proofs.YtaelaldmibgibaaGreatDoor
open Go.RowKit
attribute [local go_sem ↓] Go.wp_at_zero Go.wp_at_succ

theorem Part.cell {w0 w : World} {b n ci si : Nat} {ρ : Nat → Nat × Nat} {cw sw : Value} {cs : List Value} (h : Part w0 w b n ci si ρ cw sw cs) : w.cell? ⟨b, 2, none⟩ = some cw ∧ w.cell? ⟨b, 3, none⟩ = some sw ∧ w.frozen? ⟨b, 2, none⟩ = false ∧ w.frozen? ⟨b, 3, none⟩ = false ∧ b < w.heap.size :=
  ⟨by simp [World.cell?, h.net], by simp [World.cell?, h.net], by simp [World.frozen?, h.net], by simp [World.frozen?, h.net], (h.lt b (by rw [h.rb]; decide)).1⟩
/-- the net's own block behind a call and an append -/
theorem Part.net1 {w0 w wz w1 : World} {b n ci si : Nat} {ρ : Nat → Nat × Nat} {cw sw : Value} {cs : List Value} (h : Part w0 w b n ci si ρ cw sw cs) (hb : Below w.heap.size w wz) {o : Obj} (hg : (wz.alloc o).grownBy w1 cw.ownBlock) :
    w1.cell? ⟨b, 2, none⟩ = some cw ∧ w1.frozen? ⟨b, 2, none⟩ = false := by
  obtain ⟨h1, _, h2, _, h3⟩ := h.cell
  have e : w1.heap[b]? = w.heap[b]? := by
    have := hb.size
    rw [hg.block b (by simp; omega) (fun e => by have := h.rc b e.symm; rw [h.rb] at this; simp at this), Below.heap_alloc _ _ _ (by omega)]
    exact hb.block b h3
  exact ⟨(World.cell?_of_block (w := w) e).trans h1, (World.frozen?_of_block (w := w) e).trans h2⟩
theorem Part.net2 {w0 w w1 : World} {b n ci si : Nat} {ρ : Nat → Nat × Nat} {cw sw : Value} {cs : List Value} (h : Part w0 w b n ci si ρ cw sw cs) {o : Obj} (hg : (w.alloc o).grownBy w1 sw.ownBlock) :
    w1.cell? ⟨b, 3, none⟩ = some sw ∧ w1.frozen? ⟨b, 3, none⟩ = false := by
  obtain ⟨_, h1, _, h2, h3⟩ := h.cell
  have e : w1.heap[b]? = w.heap[b]? := by
    rw [hg.block b (by simp; omega) (fun e => by have := h.rs b e.symm; rw [h.rb] at this; simp at this), Below.heap_alloc _ _ _ h3]
  exact ⟨(World.cell?_of_block (w := w) e).trans h1, (World.frozen?_of_block (w := w) e).trans h2⟩
theorem Part.start (w : World) (n : Nat) : Part w (w.alloc (.cells #[.int .i64 n, .slice none 0 0, .slice none 0 0, .slice none 0 0] 103)) w.heap.size n 0 0 (fun k => if k = w.heap.size then (1, 0) else (0, 0)) (.slice none 0 0) (.slice none 0 0) [] := by
  refine ⟨(Below.refl _ _).alloc (Nat.le_refl _) _, heap_alloc_new _ _, rfl, World.ownsRow_nil _ _ _ _, World.ownsRow_nil _ _ _ _, ?_, by simp, (fun k hk => by cases hk), (fun k hk => by cases hk), ?_⟩
  · intro r v hv; simp at hv
  · intro k hk
    by_cases e : k = w.heap.size
    · subst e; simp
    · simp [e] at hk
theorem Part.drew {w0 w : World} {b n ci si : Nat} {ρ : Nat → Nat × Nat} {cw sw : Value} {cs : List Value} (h : Part w0 w b n ci si ρ cw sw cs) : Part w0 w.drew b n ci si ρ cw sw cs :=
  ⟨h.below.drew, h.net, h.len, h.c, h.s, h.com, h.rb, h.rc, h.rs, h.lt⟩

def newAbs (n : Nat) : Abs := { n := n, F := fun _ => [], c := fun _ => 0 }
theorem newInv (n : Nat) (cw sw : Value) (cs : List Value) (hl : cs.length = n) : RInv { n := n, paths := [], pv := .slice none 0 0, cv := cw, sv := sw, coms := cs.map (fun v => (v, List.replicate n 0)), rows := List.replicate n (.slice none 0 0, []) } (newAbs n) := by
  refine ⟨rfl, List.Pairwise.nil, ?_, ?_, ?_, ?_⟩
  · intro r x hx
    have := List.mem_of_getElem? hx
    rw [List.mem_replicate] at this
    obtain ⟨_, rfl⟩ := this
    rfl
  · intro r v l hx
    have := List.mem_of_getElem? hx
    rw [List.mem_replicate] at this
    obtain ⟨_, e⟩ := this
    simp at e
    obtain ⟨rfl, rfl⟩ := e
    rfl
  · intro r hr
    refine ⟨?_, Int.le_refl _⟩
    unfold RS.count
    have : r < cs.length := by simp only at hr; omega
    simp only [List.getElem?_map, List.getElem?_eq_getElem this]
    simp [newAbs, List.getD_eq_getElem?_getD, List.getElem?_replicate]
    split <;> rfl
  · intro r v l cw c hx hc s hs
    have := List.mem_of_getElem? hx
    rw [List.mem_replicate] at this
    obtain ⟨_, e⟩ := this
    simp at e
    obtain ⟨rfl, rfl⟩ := e
    cases hs

set_option maxHeartbeats 400000 in
theorem refNew_bad (n : Int) (w : World) (hn : n < 1 ∨ 6 < n) :
    Calls Tryz.prog 26 #[.int .i64 n] w fun e w' => e = .returned (.tuple #[.pointer none, .int .i64 1]) ∧ w' = w := by
  by_cases h1 : n < 1
  · have d1 : decide (n < 1) = true := by simp [h1]
    go_enter Tryz.func26, Tryz.ntmps26
    go_wp2
    go_ret2
    exact ⟨rfl, rfl⟩
  · have d1 : decide (n < 1) = false := by simp; omega
    have h2 : 6 < n := by omega
    clear hn
    go_enter Tryz.func26, Tryz.ntmps26
    go_wp2
    go_ret2
    exact ⟨rfl, rfl⟩

set_option maxRecDepth 100000 in
set_option maxHeartbeats 1000000 in
theorem refNew_ok (n : Nat) (w : World) (h1 : 1 ≤ n) (h6 : n ≤ 6) :
    Calls Tryz.prog 26 #[.int .i64 n] w fun e w' => ∃ ρ S, e = .returned (.tuple #[.pointer (some ⟨w.heap.size, 0, none⟩), .int .i64 0]) ∧ RefRep w' w.heap.size ρ S ∧ RInv S (newAbs n) ∧ S.n = n ∧ S.paths = [] ∧ (∀ k, (ρ k).1 ≠ 0 → w.heap.size ≤ k) ∧ Below w.heap.size w w' := by
  have d1 : decide ((n : Int) < 1) = false := by simp; omega
  have d2 : decide ((6 : Int) < (n : Int)) = false := by simp; omega
  have P0 := hide (Part.start w n)
  go_enter Tryz.func26, Tryz.ntmps26
  go_wp2
  clear d1 d2
  go_loopw [5] (fun iv wr => ∃ i : Nat, i ≤ n ∧ iv = .int .i64 i ∧ ∃ ρ cw sw cs, Hid (Part w wr w.heap.size n i i ρ cw sw cs)) (fun iv _ => n - (intOf iv).toNat)
  case atStart => exact ⟨0, Nat.zero_le _, rfl, _, _, _, _, P0⟩
  case round =>
    obtain ⟨i, hi, rfl, ρ, cw, sw, cs, hP⟩ := hrel
    by_cases hlt : i < n
    · obtain ⟨c2, c3, f2, f3, hbl⟩ := hP.out.cell
      have hbz := hP.out.below.size
      go_wp2_with fail
      go_region_law (first
        | (go_simp; go_at_call 49; refine (zeros_form n h1 h6 _).mono ?_; rintro e wz ⟨gz, cz, rfl, hoz, hgz, hlz, hbzr⟩; have hbzz := hide (⟨hbzr.os, hbzr.tape, hbzr.output, hbzr.size, hbzr.block⟩ : Below wr.heap.size wr wz); have z2 : wz.cell? ⟨w.heap.size, 2, none⟩ = some cw := (hbzz.out.cell (p := ⟨w.heap.size, 2, none⟩) hbl).trans c2; have hzz := hbzz.out.size; have z3 : ∀ o, (wz.alloc o).cell? ⟨w.heap.size, 2, none⟩ = some cw := fun o => (World.cell?_alloc_old wz o ⟨w.heap.size, 2, none⟩ (by simp only; omega)).trans z2; dsimp only)
        | (refine step_app_ints _ (by rfl) (.tmp 24) (.tmp 27) (by rfl) w.heap.size cw i cs (by rfl) ((ownsRow_keep hP.out.c (fun k hk => hbzz.out.block k (World.ownsRow.lt hP.out.c k hk).2)).alloc _) wz.heap.size (some ⟨gz, 0, none⟩) n cz (by rfl) (by simp) (by omega) (by simp; omega) ?_; intro g2 cp w1 ho2 hgr2 hat2 hl2; obtain ⟨e2, e3⟩ := hP.out.net1 hbzz.out hgr2))
      all_goals
        obtain ⟨ρ1, P1⟩ := hP.out.addCom hbzz.out gz cz hoz hgz hlz _ g2 cp ho2 hgr2 hat2
        obtain ⟨_, d3, _, fd3, hbl2⟩ := P1.cell
        have HP1 := hide P1
        clear P1 ho2 hgr2 hat2 hl2 e2 e3 hoz hgz hlz hbzr z2 z3 hzz c2 c3 f2 f3 hbz
        have hbz := HP1.out.below.size
        generalize hW : w1.setCell ⟨w.heap.size, 2, none⟩ (.slice (some ⟨g2, 0, none⟩) (i + 1) cp) = W at *
        clear hW
        go_wp2_with (at_builtin; refine app_spots _ rfl (.tmp 35) (.tmp 36) rfl w.heap.size _ _ _ rfl (HP1.out.s.alloc _) W.heap.size none 0 0 rfl (by simp) (by omega) (by simp; omega) ?_; intro g3 c3 w3 ho3 hgr3 hat3 hl3; obtain ⟨m2, m3⟩ := HP1.out.net2 hgr3)
        obtain ⟨ρ2, P2⟩ := HP1.out.addRow _ g3 c3 ho3 hgr3 hat3
        have HP2 := hide P2
        clear P2 ho3 hgr3 hat3 hl3 d3 fd3
        go_wp2
        go_roundw
        case rel => exact ⟨i + 1, by omega, by go_num, _, _, _, _, HP2⟩
        case measure => simp [intOf]; omega
    · have ei : i = n := by omega
      subst ei
      go_wp2
      go_ret2
      have R := hP.out.rep h1 h6
      exact ⟨ρ, _, rfl, R, newInv i cw sw cs hP.out.len, rfl, rfl, fun k hk => (hP.out.lt k hk).2, hP.out.below⟩

end Go.Proofs.YtaelaldmibgibaaGreatDoor

namespace Go.Proofs.YtaelaldmibgibaaGreatDoor
open Go.RowKit

set_option maxHeartbeats 600000 in
theorem refRead_in (b : Nat) (r : Int) (p : ByteArray) (ρ : Nat → Nat × Nat) (S : RS) (A : Abs) (w : World) (h : RefRep w b ρ S) (hI : RInv S A) (hin : S.paths[atOf S.paths p]? = some p) (hs : p.size ≤ maxLen) :
    Calls Tryz.prog 85 #[.pointer (some ⟨b, 0, none⟩), .int .i64 r, .string p] w fun e w' => e = .returned (.tuple #[.string (A.readT r p), .int .i64 (A.readE r p)]) ∧ w' = w := by
  cases ho : A.out r with
  | true =>
    have e1 : A.readE r p = 1 := by unfold Abs.readE; rw [if_pos ho]
    have e2 : A.readT r p = ⟨#[]⟩ := by unfold Abs.readT; rw [e1]; rfl
    rw [e1, e2]
    have C := hide (asked_bad b r p ρ S A w h hI hs ho)
    clear h hI
    go_enter Tryz.func85, Tryz.ntmps85
    go_wp2_with (go_at_call 150; refine C.out.mono ?_; rintro e w' ⟨rfl, rfl⟩)
    go_ret2
    exact ⟨rfl, rfl⟩
  | false =>
    cases hp : pathOk p with
    | false =>
      have e1 : A.readE r p = 2 := by unfold Abs.readE; rw [if_neg (by rw [ho]; simp), if_pos hp]
      have e2 : A.readT r p = ⟨#[]⟩ := by unfold Abs.readT; rw [e1]; rfl
      rw [e1, e2]
      have C := hide (asked_path b r p ρ S A w h hI hs ho hp)
      clear h hI
      go_enter Tryz.func85, Tryz.ntmps85
      go_wp2_with (go_at_call 150; refine C.out.mono ?_; rintro e w' ⟨rfl, rfl⟩)
      go_ret2
      exact ⟨rfl, rfl⟩
    | true =>
      have C := hide (asked_ok b r p ρ S A w h hI hs ho hp)
      have D := hide (place_old b p ρ S w h hin)
      have HR := hide h
      have HI := hide hI
      have e1 : Hid (A.readE r p = if get p (A.F r.toNat) = none then 4 else 0) := by unfold Hid Abs.readE; rw [if_neg (by rw [ho]; simp), if_neg (by rw [hp]; simp)]
      have e2 : Hid (A.readT r p = if A.readE r p = 0 then (get p (A.F r.toNat)).getD ⟨#[]⟩ else ⟨#[]⟩) := by unfold Hid Abs.readT; rfl
      obtain ⟨q, rfl, hq⟩ := out_nat ho
      have hqn : q < S.n := by rw [← hI.n]; exact hq
      clear h hI ho hp hq
      rw [Int.toNat_natCast] at e1 e2
      go_enter Tryz.func85, Tryz.ntmps85
      go_wp2_with fail
      refine C.out.mono ?_
      rintro e w ⟨rfl, rfl⟩
      go_wp2_with fail
      refine D.out.mono ?_
      rintro e w' ⟨rfl, rfl⟩
      have hR := HR.out
      have hI' := HI.out
      have hpi := hin
      generalize atOf S.paths p = i at *
      obtain ⟨sg, sc, g, cap, l, s, es, h3, hsr, hx, hks, hll, hA, hP, hg, hc, _⟩ := spot_at hR hI' q hqn i p hpi
      have hget := hP.get
      rw [← hA, rowM_head] at hget
      have c0 : w'.cell? ⟨g, i * 6, none⟩ = some (.bool s.there) := by simpa [SP.cells] using hc 0 (by omega)
      have c1 : w'.cell? ⟨g, i * 6 + 1, none⟩ = some (.string s.text) := by simpa [SP.cells] using hc 1 (by omega)
      have hil : i < l.length := (List.getElem?_eq_some_iff.1 hks).1
      have hn6 := hR.n6
      clear hks hx es hA hP hc hpi hll hI' hR HR HI
      cases ht : s.there with
      | true =>
        rw [ht] at hget c0
        rw [if_pos rfl] at hget
        have E1 : Hid (A.readE (q : Int) p = 0) := by unfold Hid; rw [e1.out, hget]; rfl
        have E2 : Hid (A.readT (q : Int) p = s.text) := by unfold Hid; rw [e2.out, E1.out, hget]; rfl
        clear hget e1 e2 ht
        generalize S.n = n at *
        go_wp2
        go_ret2
        exact ⟨ret_si E2.out.symm E1.out.symm, rfl⟩
      | false =>
        rw [ht] at hget c0
        rw [if_neg (by simp)] at hget
        have E1 : Hid (A.readE (q : Int) p = 4) := by unfold Hid; rw [e1.out, hget]; rfl
        have E2 : Hid (A.readT (q : Int) p = ⟨#[]⟩) := by unfold Hid; rw [e2.out, E1.out]; rfl
        clear hget e1 e2 ht
        generalize S.n = n at *
        go_wp2
        go_ret2
        exact ⟨ret_si E2.out.symm E1.out.symm, rfl⟩

end Go.Proofs.YtaelaldmibgibaaGreatDoor
