/- The document's Unpack: what it reads for the replicas, one behind the other. The program's ReadHex. The program's readFile, without memory. -/
import Derived.Test.YtaelaldmibgibaaGreatDoorU19
import Derived.Deep.RegionLaw
import Derived.Test.YtaelaldmibgibaaGreatDoorU12

set_option linter.unusedVariables false
set_option linter.unusedSimpArgs false

namespace Go.Proofs.YtaelaldmibgibaaGreatDoor
open Go.RowKit

theorem info_strsT : (Tryz.prog.info? 25).map (fun i => (i.zero, i.size, i.bytes)) = some (some (.slice none 0 0), 1, 24) := by kernel_rfl
theorem app_strs {ops : Array Oper} {rest : List Oper} {o : Oper} {a : Act} {Q : Exit → Act → World → Prop} (w : World) (hgd : o.guard = none) (s x : Operand) (ho : o.op = .call { callee := .builtin .append, args := #[s, x], argTypes := #[56, 56] }) (base : Nat) (v : Value) (n : Nat) (xs : List Value) (hs : a.eval s = v) (hown : w.ownsRow base 25 1 v n xs)
    (k : Nat) (ya : Option Addr) (yn yc : Nat) (hx : a.eval x = .slice (some ⟨k, 0, none⟩) 1 1) (hc : w.cell? ⟨k, 0, none⟩ = some (.slice ya yn yc)) (hn : n ≤ 1000000000000) (hb : base ≤ w.heap.size)
    (h : ∀ g cap w1, w1.ownsRow base 25 1 (.slice (some ⟨g, 0, none⟩) (n + 1) cap) (n + 1) (xs ++ [.slice ya yn yc]) → w.grownBy w1 v.ownBlock → (v.ownBlock = some g ∨ g = w.heap.size) → g < w1.heap.size → wpList Tryz.prog ops Q rest (a.put o.dst (.slice (some ⟨g, 0, none⟩) (n + 1) cap)) w1) :
    wpList Tryz.prog ops Q (o :: rest) a w := by
  obtain ⟨i0, hi, hz0, hz1, hz2⟩ := info_parts info_strsT
  refine wpList_append_lies w hgd s x 56 ho base 25 i0 _ 1 24 Tryz.underlying56 hi hz0 hz1 hz2 rfl (by decide) v n xs hs hown ⟨k, 0, none⟩ 1 1 [.slice ya yn yc] hx rfl ?_ ?_ (by omega) (by unfold maxLen; omega) (by omega) hb _ rfl h
  · intro j u hj
    match j, hj with
    | 0, hj => simp at hj; subst hj; simpa [Addr.add] using hc
  · intro u hu; simp at hu; subst hu; rfl
theorem ownsRow_slice {w : World} {base : Nat} {e : TypeId} {k : Nat} {v : Value} {n : Nat} {xs : List Value} (h : w.ownsRow base e k v n xs) : ∃ a m c, v = .slice a m c := by
  rcases h.2 with ⟨rfl, _⟩ | ⟨g, cap, _, rfl, _⟩
  · exact ⟨_, _, _, rfl⟩
  · exact ⟨_, _, _, rfl⟩

theorem reps_no (s : ByteArray) (n : Nat) (x : Nat × Bool) (k : Nat) : ∀ d, (repsS s n k x).1.2 = true → (repsS s n (k + d) x).1.2 = true := by
  intro d
  induction d with
  | zero => exact id
  | succ d ih =>
    intro h
    have := ih h
    cases hc : (repsS s n (k + (d + 1)) x).1.2
    · have q := repS_no s n (repsS s n (k + d) x).1 hc
      rw [q] at this
      cases this
    · rfl

/-- so many replicas are read -/
structure Ub (w wr : World) (s : ByteArray) (x0 : Nat × Bool) (tb n i : Nat) (ρ σ : Nat → Nat × Nat) (S : RS) (R : List RR) (nv xv : Value) (ns xs : List Value) : Prop where
  u : U0 w wr s (repsS s n i x0).1 tb n ρ σ S R nv xv ns xs
  len : R.length = i
  rd : ∀ (j : Nat) a, (repsS s n i x0).2[j]? = some a → ∃ r cw, R[j]? = some r ∧ r.ps = a.2.map (·.1) ∧ r.rs = a.2.map (·.2) ∧ S.coms[j]? = some (cw, a.1)
  paths : S.paths = []
  rows : ∀ (r : Nat) y, S.rows[r]? = some y → y.2 = []

section
variable {w wr w' : World} {s : ByteArray} {x y : Nat × Bool} {tb n : Nat} {ρ σ : Nat → Nat × Nat} {S : RS} {R : List RR} {nv xv : Value} {ns xs : List Value}

theorem U0.records (h : U0 w wr s x tb n ρ σ S R nv xv ns xs) (hle : R.length < 6) :
    Calls Tryz.prog 53 #[.pointer (some ⟨w.heap.size, 0, none⟩), .int .i64 n] wr fun e w' => ∃ a1 n1 c1 a2 n2 c2 cs σ', e = .returned (.tuple #[.slice a1 n1 c1, .slice a2 n2 c2]) ∧ U0 w w' s (recsS s n (s.size - x.1 + 1) x []).1 tb n ρ σ' S (R ++ [⟨.slice a1 n1 c1, .slice a2 n2 c2, (recsS s n (s.size - x.1 + 1) x []).2.map (·.1), cs, (recsS s n (s.size - x.1 + 1) x []).2.map (·.2)⟩]) nv xv ns xs := by
  refine (records_any _ s x n R.length h.n1 h.n6 wr h.rd).mono ?_
  rintro e w' ⟨lv, ov, cs, ρ2, rfl, hc⟩
  obtain ⟨σ', hd, hz⟩ := h.db.add h.bel.size hc h.srd hle
  obtain ⟨a1, n1, c1, rfl⟩ := ownsRow_slice hc.ol
  obtain ⟨a2, n2, c2, rfl⟩ := ownsRow_slice hc.oo
  refine ⟨a1, n1, c1, a2, n2, c2, cs, σ', rfl, hc.rd, h.net.fr hc.fr (fun k hk e => by have := h.rlo k hk; omega), h.sn, hd, fun k hk => ?_, h.rlo, ?_, (h.onRd hc.rd hc.fr).bel⟩
  · rcases Nat.decEq (σ' k).1 0 with e | e
    · rcases hz k e with q | q
      · exact absurd (h.ap k hk) q
      · have := h.net.lt k hk; omega
    · exact e
  · rcases Nat.decEq (σ' w.heap.size).1 0 with e | e
    · rcases hz _ e with q | q
      · exact absurd h.srd q
      · have := h.rd.lt; omega
    · exact e

/-- one of the two outer lists has grown -/
theorem U0.grown {σ' : Nat → Nat × Nat} {nv' xv' : Value} {ns' xs' : List Value} {row : Value} (h : U0 w wr s x tb n ρ σ S R nv xv ns xs) (hd : Rdb w.heap.size w' σ' n R nv' xv' ns' xs') (hz : ∀ k, (σ' k).1 ≠ 0 → (σ k).1 ≠ 0 ∨ wr.heap.size ≤ k) (hg : wr.grownBy w' row.ownBlock) (hrow : ∀ k, row.ownBlock = some k → (σ k).1 ≠ 0) : U0 w w' s x tb n ρ σ' S R nv' xv' ns' xs' := by
  have keepB : ∀ k, k < wr.heap.size → (σ k).1 = 0 → w'.heap[k]? = wr.heap[k]? := fun k hk hs => hg.block k hk (fun e => hrow k e.symm hs)
  have hsz := h.bel.size
  refine ⟨h.rd.keep (keepB _ h.rd.lt h.srd), h.net.keep hg.size (fun k hk => keepB k (h.net.lt k hk) (h.ap k hk)), h.sn, hd, fun k hk => ?_, h.rlo, ?_, ⟨hg.os.trans h.bel.os, hg.tape.trans h.bel.tape, hg.output.trans h.bel.output, Nat.le_trans hsz hg.size, fun k hk => ?_⟩⟩
  · rcases Nat.decEq (σ' k).1 0 with e | e
    · rcases hz k e with q | q
      · exact absurd (h.ap k hk) q
      · have := h.net.lt k hk; omega
    · exact e
  · rcases Nat.decEq (σ' w.heap.size).1 0 with e | e
    · rcases hz _ e with q | q
      · exact absurd h.srd q
      · have := h.rd.lt; omega
    · exact e
  · rw [keepB k (by omega) (by
      rcases Nat.decEq (σ k).1 0 with e | e
      · have := (h.db.lo k e).1; omega
      · exact e)]
    exact h.bel.block k hk
theorem U0.pushN (h : U0 w wr s x tb n ρ σ S R nv xv ns xs) (v : Value) (g m cap : Nat) (hown : w'.ownsRow w.heap.size 25 1 (.slice (some ⟨g, 0, none⟩) m cap) (ns.length + 1) (ns ++ [v])) (hg : wr.grownBy w' nv.ownBlock) (hat : nv.ownBlock = some g ∨ g = wr.heap.size) :
    ∃ σ', U0 w w' s x tb n ρ σ' S R (.slice (some ⟨g, 0, none⟩) m cap) xv (ns ++ [v]) xs := by
  obtain ⟨σ', hd, hz⟩ := h.db.pushN v g m cap hown hg hat
  exact ⟨σ', h.grown hd hz hg (fun k e => by rw [h.db.rn k e]; simp)⟩
theorem U0.pushX (h : U0 w wr s x tb n ρ σ S R nv xv ns xs) (v : Value) (g m cap : Nat) (hown : w'.ownsRow w.heap.size 112 1 (.slice (some ⟨g, 0, none⟩) m cap) (xs.length + 1) (xs ++ [v])) (hg : wr.grownBy w' xv.ownBlock) (hat : xv.ownBlock = some g ∨ g = wr.heap.size) :
    ∃ σ', U0 w w' s x tb n ρ σ' S R nv (.slice (some ⟨g, 0, none⟩) m cap) ns (xs ++ [v]) := by
  obtain ⟨σ', hd, hz⟩ := h.db.pushX v g m cap hown hg hat
  exact ⟨σ', h.grown hd hz hg (fun k e => by rw [h.db.rx k e]; simp)⟩
end

end Go.Proofs.YtaelaldmibgibaaGreatDoor

namespace Go.Proofs.YtaelaldmibgibaaGreatDoor
open Go.RowKit Go.Lib

theorem info_u8 : (Tryz.prog.info? 5).map (fun i => (i.zero, i.size, i.bytes)) = some (some (.int .u8 0), 1, 1) := by kernel_rfl
theorem app_u8 {ops : Array Oper} {rest : List Oper} {o : Oper} {a : Act} {Q : Exit → Act → World → Prop} (w : World) (hgd : o.guard = none) (s x : Operand) (ho : o.op = .call { callee := .builtin .append, args := #[s, x], argTypes := #[53, 53] }) (base : Nat) (v : Value) (n : Nat) (xs : List Value) (hs : a.eval s = v) (hown : w.ownsRow base 5 1 v n xs)
    (k : Nat) (y : Int) (hx : a.eval x = .slice (some ⟨k, 0, none⟩) 1 1) (hc : w.cell? ⟨k, 0, none⟩ = some (.int .u8 y)) (hn : n ≤ 1000000000000) (hb : base ≤ w.heap.size)
    (h : ∀ g cap w1, w1.ownsRow base 5 1 (.slice (some ⟨g, 0, none⟩) (n + 1) cap) (n + 1) (xs ++ [.int .u8 y]) → w.grownBy w1 v.ownBlock → (v.ownBlock = some g ∨ g = w.heap.size) → g < w1.heap.size → wpList Tryz.prog ops Q rest (a.put o.dst (.slice (some ⟨g, 0, none⟩) (n + 1) cap)) w1) :
    wpList Tryz.prog ops Q (o :: rest) a w := by
  obtain ⟨i0, hi, hz0, hz1, hz2⟩ := info_parts info_u8
  refine wpList_append_lies w hgd s x 53 ho base 5 i0 _ 1 1 Tryz.underlying53 hi hz0 hz1 hz2 rfl (by decide) v n xs hs hown ⟨k, 0, none⟩ 1 1 [.int .u8 y] hx rfl ?_ ?_ (by omega) (by unfold maxLen; omega) (by omega) hb _ rfl h
  · intro j u hj
    match j, hj with
    | 0, hj => simp at hj; subst hj; simpa [Addr.add] using hc
  · intro u hu; simp at hu; subst hu; rfl
theorem below_drewN {B : Nat} {w w' : World} (h : Below B w w') (q : Nat) : Below B w (w'.drewN q) := ⟨h.os, h.tape, h.output, h.size, h.block⟩
def bvs (l : Bs) : List Value := l.map (fun c => Value.int .u8 (c.toNat : Int))
/-- bytes in memory -/
structure RH (w wr : World) (v : Value) (u : Bs) : Prop where
  bel : Below w.heap.size w wr
  own : wr.ownsRow w.heap.size 5 1 v u.length (bvs u)
theorem pairsR_app : ∀ (k : Nat) (a b : Bs), a.length = 2 * k → pairsR (a ++ b) = (pairsR a).bind fun x => (pairsR b).map (x ++ ·)
  | 0, a, b, h => by
    have : a = [] := List.length_eq_zero_iff.1 (by omega)
    subst this
    cases h : pairsR b <;> simp [pairsR, h]
  | k + 1, a, b, h => by
    match a, h with
    | x :: y :: a, h =>
      rw [List.cons_append, List.cons_append, pairsR, pairsR, pairsR_app k a b (by simp at h; omega)]
      split
      · rfl
      · cases pairsR a with
        | none => rfl
        | some z => cases pairsR b <;> simp

set_option maxHeartbeats 400000 in
theorem ReadHex_any (t : ByteArray) (ht : t.size ≤ 10000000) (w : World) :
    Calls Tryz.prog 252 #[.string t] w fun e w' => e = .returned (.tuple #[.string (ofBs ((hexR (bs t)).getD [])), .bool (hexR (bs t)).isSome]) ∧ Below w.heap.size w w' := by
  have CP : Hid (Calls Tryz.prog 143 #[.string t, .string ⟨#[61]⟩] w fun e w' => e = .returned (.tuple #[.string (ofBs (trimPrefix (bs t) [61])), .bool (hasPrefix (bs t) [61])]) ∧ w' = w) := Tryz.strings_CutPrefix t ⟨#[61]⟩ w
  have IB : Hid (∀ (W : World) (c : UInt8), Calls Tryz.prog 266 #[.string ⟨#[48, 49, 50, 51, 52, 53, 54, 55, 56, 57, 97, 98, 99, 100, 101, 102]⟩, .int .u8 (c.toNat : Int)] W fun e w' => e = .returned (.int .i64 (dv c)) ∧ w' = W) := fun W c => by
    refine (Tryz.strings_IndexByte ⟨#[48, 49, 50, 51, 52, 53, 54, 55, 56, 57, 97, 98, 99, 100, 101, 102]⟩ (c.toNat : Int) W).mono ?_
    rintro e w' ⟨rfl, rfl⟩
    rw [Lib.byte_back']
    exact ⟨rfl, rfl⟩
  have HR : Hid (hexR (bs t) = if hasPrefix (bs t) [61] = true ∧ (trimPrefix (bs t) [61]).length % 2 = 0 ∧ (trimPrefix (bs t) [61]).length ≤ 120 then pairsR (trimPrefix (bs t) [61]) else none) := rfl
  have hsz : (ofBs (trimPrefix (bs t) [61])).size ≤ 10000000 := by
    rw [← bs_len, bs_ofBs]
    unfold trimPrefix
    split
    · rw [List.length_drop, bs_len]; omega
    · rw [bs_len]; omega
  have HQ : Hid (bs (ofBs (trimPrefix (bs t) [61])) = trimPrefix (bs t) [61]) := bs_ofBs _
  generalize hexR (bs t) = R at *
  generalize hasPrefix (bs t) [61] = hp at *
  generalize ofBs (trimPrefix (bs t) [61]) = q at *
  rw [← HQ.out, bs_len] at HR
  clear HQ
  cases hp with
  | false =>
    have e : R = none := by rw [HR.out, if_neg (by simp)]
    subst e
    go_enter Tryz.func252, Tryz.ntmps252
    go_wp2_with (go_at_call 143; refine (CP.out).mono ?_; rintro e w ⟨rfl, rfl⟩)
    go_ret2
    exact ⟨rfl, Below.refl _ _⟩
  | true =>
    have dm : ((q.size : Int).tmod 2) = ((q.size % 2 : Nat) : Int) := by rw [Int.tmod_eq_emod_of_nonneg (by omega)]; simp
    by_cases h2 : q.size % 2 = 0
    · rw [h2] at dm
      by_cases h3 : q.size ≤ 120
      · have HR' : Hid (R = pairsR (bs q)) := by unfold Hid; rw [HR.out, if_pos ⟨rfl, h2, h3⟩]
        have d3 : decide ((120 : Int) < (q.size : Int)) = false := by simp; omega
        clear HR
        obtain ⟨zs, hzs, hmk⟩ : ∃ zs : Array Value, zs.size = 60 ∧ ∀ W, (Instr.makeSlice 53 (.int .i64 0) (.int .i64 60)).run Tryz.prog W = .ok (.slice (some ⟨W.heap.size, 0, none⟩) 0 60) (W.alloc (.cells zs 5)) := ⟨Array.replicate 60 (.int .u8 0), rfl, fun _ => by kernel_rfl⟩
        have H0 : Hid (RH w (w.alloc (.cells zs 5)) (.slice (some ⟨w.heap.size, 0, none⟩) 0 60) []) := ⟨(Below.refl _ _).alloc (Nat.le_refl _) _, World.ownsRow_made w zs 60 (Nat.le_refl _) (by unfold maxLen; omega) (by rw [hzs])⟩
        go_enter Tryz.func252, Tryz.ntmps252
        go_wp2_with (go_at_call 143; refine (CP.out).mono ?_; rintro e w ⟨rfl, rfl⟩)
        go_loopw [6, 7] (fun tv iv wr => ∃ (i : Nat) (u : Bs), i ≤ q.size ∧ i % 2 = 0 ∧ iv = .int .i64 i ∧ (∃ g c, tv = .slice (some ⟨g, 0, none⟩) u.length c) ∧ Hid (pairsR ((bs q).take i) = some u) ∧ Hid (RH w wr tv u)) (fun _ iv _ => q.size - (intOf iv).toNat)
        case atStart => exact ⟨0, [], Nat.zero_le _, rfl, rfl, ⟨_, _, rfl⟩, rfl, H0⟩
        case round =>
          obtain ⟨i, u, hi, hi2, rfl, ⟨tg, tcp, rfl⟩, hu, hH⟩ := hrel
          clear H0
          have hul : Hid (2 * u.length = i) := by
            have := (pairsR_iff _ _).1 hu.out
            have hl := hexT_len u
            rw [← this, List.length_take, bs_len] at hl
            unfold Hid
            omega
          by_cases hin : i < q.size
          · have hin1 : i + 1 < q.size := by omega
            have gx : (bs q)[i]? = some q[i] := by rw [at_bs q i hin, getElem!_pos q.data i hin]; rfl
            have gy : (bs q)[i + 1]? = some q[i + 1] := by rw [at_bs q (i + 1) hin1, getElem!_pos q.data (i + 1) hin1]; rfl
            have PS : Hid (∀ b, pairsR ((bs q).take i ++ b) = (pairsR b).map (u ++ ·)) := fun b => by
              rw [pairsR_app (i / 2) _ _ (by rw [List.length_take, bs_len]; omega), hu.out]
              rfl
            have ES : Hid (bs q = (bs q).take i ++ q[i] :: q[i + 1] :: (bs q).drop (i + 2)) := by
              unfold Hid
              conv => lhs; rw [← List.take_append_drop i (bs q)]
              rw [List.drop_eq_getElem_cons (by rw [bs_len]; exact hin), List.drop_eq_getElem_cons (by rw [bs_len]; exact hin1)]
              have e1 := (List.getElem?_eq_some_iff.1 gx).2
              have e2 := (List.getElem?_eq_some_iff.1 gy).2
              rw [e1, e2]
            have ET : Hid ((bs q).take (i + 2) = (bs q).take i ++ [q[i], q[i + 1]]) := by
              unfold Hid
              rw [List.take_add_one, gy, List.take_add_one, gx]
              simp
            have BR : Hid (dv q[i] < 0 ∨ dv q[i + 1] < 0 → R = none) := fun h => by
              rw [HR'.out, ES.out, PS.out, pairsR, if_pos h]
              rfl
            clear gx gy
            have hwr : IntKind.i64.wrap ((i : Int) + 1) = (i : Int) + 1 := wrap_small _ (by omega) (by omega)
            have hi0 : (0 : Int) ≤ (i : Int) + 1 := by omega
            have hi1 : (i : Int) + 1 < (q.size : Int) := by omega
            rcases dv_spec q[i] with hx | ⟨a, ha, hx, -⟩
            · have eR : R = none := BR.out (.inl (by omega))
              subst eR
              have dx : decide (dv q[i] < 0) = true := by rw [hx]; rfl
              go_wp2_with fail
              go_quiet ((go_at_call 266; exact (IB.out _ _).mono fun _ _ h => ⟨h.1, _, h.2⟩))
              go_wp2
              go_ret2
              exact ⟨rfl, below_drewN hH.out.bel _⟩
            · rcases dv_spec q[i + 1] with hy | ⟨b, hb, hy, -⟩
              · have eR : R = none := BR.out (.inr (by omega))
                subst eR
                go_wp2_with fail
                go_quiet ((go_at_call 266; exact (IB.out _ _).mono fun _ _ h => ⟨h.1, _, h.2⟩))
                go_wp2
                go_ret2
                exact ⟨rfl, below_drewN hH.out.bel _⟩
              · have own := hH.out.own
                have PU : Hid (pairsR ((bs q).take (i + 2)) = some (u ++ [UInt8.ofNat (16 * a + b)])) := by
                  unfold Hid
                  rw [ET.out, PS.out, pairsR, if_neg (by omega), hx, hy]
                  rfl
                clear PS ES ET BR
                go_wp2_with fail
                go_quiet ((go_at_call 266; exact (IB.out _ _).mono fun _ _ h => ⟨h.1, _, h.2⟩))
                have hz0 : w.heap.size ≤ wr.heap.size := hH.out.bel.size
                have hul' : u.length ≤ 10000000 := by have := hul.out; omega
                have OW : Hid (∀ o, ((wr.drewN nq).alloc o).ownsRow w.heap.size 5 1 (.slice (some ⟨tg, 0, none⟩) u.length tcp) u.length (bvs u)) := fun o => World.ownsRow.alloc (ownsRow_keep own (fun _ _ => rfl)) o
                have d3' : decide ((a : Int) < 0) = false := by simp
                have d4' : decide ((b : Int) < 0) = false := by simp
                have HC : ∀ y t', ((wr.drewN nq).alloc (.cells #[y] t')).cell? ⟨wr.heap.size, 0, none⟩ = some y := fun y t' => by
                  have q' : ((wr.drewN nq).alloc (.cells #[y] t')).heap[wr.heap.size]? = some (.cells #[y] t' (0, 0)) := heap_alloc_new (wr.drewN nq) (.cells #[y] t')
                  unfold World.cell?
                  simp only [q']
                  rfl
                have HZ : ∀ o, w.heap.size ≤ ((wr.drewN nq).alloc o).heap.size := fun o => by
                  have : ((wr.drewN nq).alloc o).heap.size = wr.heap.size + 1 := World.size_alloc (wr.drewN nq) o
                  omega
                rw [hx, hy]
                clear hmk dm hwr hx hy d3 hzs own
                go_wp2_with (at_builtin; refine app_u8 _ rfl (.tmp 50) (.tmp 56) rfl w.heap.size _ _ _ rfl (OW.out _) wr.heap.size (16 * (a : Int) + (b : Int)) rfl (HC _ _) (by omega) (HZ _) ?_; intro g3 c3 w3 ho3 hgr3 hat3 hl3)
                have hv : (UInt8.ofNat (16 * a + b)).toNat = 16 * a + b := by rw [UInt8.toNat_ofNat']; omega
                refine ⟨⟨i + 2, u ++ [UInt8.ofNat (16 * a + b)], by omega, by omega, by go_num, ⟨g3, c3, by simp⟩, PU, ?_⟩, by simp [intOf]; omega⟩
                refine ⟨?_, ?_⟩
                · refine Below.grown ((below_drewN hH.out.bel nq).alloc hz0 _) hgr3 (HZ _) (fun k hk => ?_)
                  exact (World.ownsRow.lt hH.out.own k hk).1
                · have e : bvs (u ++ [UInt8.ofNat (16 * a + b)]) = bvs u ++ [.int .u8 (16 * (a : Int) + (b : Int))] := by
                    unfold bvs
                    rw [List.map_append, List.map_singleton, hv]
                    simp
                  rw [e, List.length_append]
                  exact ho3
          · have ei : i = q.size := by omega
            subst ei
            have eR : R = some u := by rw [HR'.out, ← hu.out, ← bs_len, List.take_length]
            subst eR
            have own := hH.out.own
            have hcv : (convert 53 9 (.slice (some ⟨tg, 0, none⟩) u.length tcp)).run Tryz.prog wr = .ok (.string (ofBs u)) wr := by
              rcases own.2 with ⟨e, _⟩ | ⟨g, cap, cur, e, _, hgc, _, _, _, htk⟩
              · cases e
              · simp only [Value.slice.injEq, Option.some.injEq, Addr.mk.injEq, and_true, true_and] at e
                obtain ⟨rfl, rfl⟩ := e
                refine run_convert_bytes_back (P := Tryz.prog) _ 53 9 5 ⟨tg, 0, none⟩ tcp u Tryz.underlying53 Tryz.underlying5 Tryz.underlying9 (fun j hj => ?_)
                have h1 : (bvs u)[j]? = some (.int .u8 (u[j].toNat : Int)) := by simp [bvs, hj]
                have e : (⟨tg, 0, none⟩ : Addr).add j = ⟨tg, j, none⟩ := by unfold Addr.add; split <;> simp_all
                rw [e]
                rw [← htk, List.getElem?_take] at h1
                split at h1
                · simp only [World.cell?, hgc]
                  simpa using h1
                · cases h1
            go_wp2
            go_ret2
            exact ⟨rfl, hH.out.bel⟩
      · have e : R = none := by rw [HR.out, if_neg (by omega)]
        subst e
        have d3 : decide ((120 : Int) < (q.size : Int)) = true := by simp; omega
        go_enter Tryz.func252, Tryz.ntmps252
        go_wp2_with (go_at_call 143; refine (CP.out).mono ?_; rintro e w ⟨rfl, rfl⟩)
        go_ret2
        exact ⟨rfl, Below.refl _ _⟩
    · have e : R = none := by rw [HR.out, if_neg (by omega)]
      subst e
      rw [show q.size % 2 = 1 by omega] at dm
      go_enter Tryz.func252, Tryz.ntmps252
      go_wp2_with (go_at_call 143; refine (CP.out).mono ?_; rintro e w ⟨rfl, rfl⟩)
      go_ret2
      exact ⟨rfl, Below.refl _ _⟩

end Go.Proofs.YtaelaldmibgibaaGreatDoor

namespace Go.Proofs.YtaelaldmibgibaaGreatDoor
open Go.RowKit Go.Lib

/-- a file as a text tells it: text, birth, changes -/
structure FileR where
  text : Bs
  br : Nat
  bn : Nat
  ch : List Nat
/-- what the fields tell; none: no file can be read; some none: no file -/
def fileR (n : Nat) : List Bs → Option (Option FileR)
  | [a] => if a = [45] then some none else none
  | [a, b, c] => (eventR n a).bind fun e => (timeR n b).bind fun l => (hexR c).bind fun t => if e.2 ≤ l.getD e.1 0 then some (some ⟨t, e.1, e.2, l⟩) else none
  | _ => none
theorem fileR_none (n : Nat) (fs : List Bs) : fileR n fs = some none ↔ fs = [[45]] := by
  constructor
  · intro h
    match fs with
    | [] => cases h
    | [a] =>
      have h' : (if a = [45] then some none else none : Option (Option FileR)) = some none := h
      by_cases e : a = [45]
      · rw [e]
      · rw [if_neg e] at h'
        cases h'
    | [a, b] => cases h
    | [a, b, c] =>
      unfold fileR at h
      simp only [Option.bind_eq_some_iff] at h
      obtain ⟨_, _, _, _, _, _, h⟩ := h
      split at h <;> cases h
    | a :: b :: c :: d :: r => cases h
  · rintro rfl
    rfl
theorem fileR_some (n : Nat) (hn : 1 ≤ n) (h6 : n ≤ 6) (fs : List Bs) (f : FileR) : fileR n fs = some (some f) ↔
    f.br < n ∧ 1 ≤ f.bn ∧ f.bn ≤ 1000000000 ∧ f.ch.length = n ∧ (∀ v ∈ f.ch, v ≤ 1000000000) ∧ f.text.length ≤ 60 ∧ f.bn ≤ f.ch.getD f.br 0 ∧
    fs = [decDigits f.br ++ 58 :: decDigits f.bn, timeT f.ch, 61 :: hexT f.text] := by
  constructor
  · intro h
    match fs with
    | [] => cases h
    | [a] =>
      have h' : (if a = [45] then some none else none : Option (Option FileR)) = some (some f) := h
      by_cases e : a = [45]
      · rw [if_pos e] at h'
        cases h'
      · rw [if_neg e] at h'
        cases h'
    | [a, b] => cases h
    | [a, b, c] =>
      unfold fileR at h
      simp only [Option.bind_eq_some_iff] at h
      obtain ⟨e, h1, l, h2, t, h3, h4⟩ := h
      split at h4
      · rename_i hc
        cases h4
        obtain ⟨q1, q2, q3, rfl⟩ := (eventR_iff n h6 a e.1 e.2).1 h1
        obtain ⟨q5, q6, rfl⟩ := (timeR_iff n hn b l).1 h2
        obtain ⟨q7, rfl⟩ := (hexR_iff c t).1 h3
        exact ⟨q1, q2, q3, q5, q6, q7, hc, rfl⟩
      · cases h4
    | a :: b :: c :: d :: r => cases h
  · rintro ⟨q1, q2, q3, q4, q5, q6, q7, rfl⟩
    show ((eventR n (decDigits f.br ++ 58 :: decDigits f.bn)).bind fun e => (timeR n (timeT f.ch)).bind fun l => (hexR (61 :: hexT f.text)).bind fun t => if e.2 ≤ l.getD e.1 0 then some (some ⟨t, e.1, e.2, l⟩) else none) = some (some f)
    rw [(eventR_iff n h6 _ f.br f.bn).2 ⟨q1, q2, q3, rfl⟩, (timeR_iff n hn _ f.ch).2 ⟨q4, q5, rfl⟩, (hexR_iff _ f.text).2 ⟨q6, rfl⟩]
    simp only [Option.bind_some]
    rw [if_pos q7]

end Go.Proofs.YtaelaldmibgibaaGreatDoor
