/- Histories: drawn: the pasts' pull of all paths against what was told. Histories: Of, Does, Resolve, drawn, told, with the net beside them; over the twin. What stands behind a step. Histories: one step, which the pasts go along with; over the twin. Histories: one step, which the pasts go along with: Remove, PullPath, Pull; what is no step. Over the twin. -/
import Derived.Test.YtaelaldmibgibaaGreatH29
import Derived.Test.YtaelaldmibgibaaGreatH49
import Derived.BigQuiet
import Derived.Deep.QuietTactic
import Derived.Test.YtaelaldmibgibaaGreatH48
import Derived.Test.YtaelaldmibgibaaGreatH33
import Derived.Deep.RegionLaw
import Derived.Deep.DeepCutAuto

set_option linter.unusedVariables false
set_option linter.unusedSimpArgs false
set_option linter.unusedSectionVars false
set_option maxHeartbeats 4000000
set_option maxRecDepth 100000

namespace Go.Proofs.YtaelaldmibgibaaGreat
open Go.RowKit
open Classical
theorem run_eq_chg (x u y v : Int) (p q : ByteArray) (w : World) : (Op.equalIn 10000 66 (.agg #[.int .i64 x, .string p, .int .i64 y]) (.agg #[.int .i64 u, .string q, .int .i64 v])).run Tryz.prog w = .ok (x == u && (p.toList == q.toList && y == v)) w := by
 go_simp
 by_cases h1 : x = u <;> by_cases h2 : p.toList = q.toList <;> by_cases h3 : y = v <;> simp [h1, h2, h3]
def eqCg (x y : Value) : Sem Value := binOp .eql 66 x y
theorem eqChg (x y : Value) : binOp .eql 66 x y = eqCg x y := rfl
theorem run_eqCg (x u y v : Int) (p q : ByteArray) (w : World) : (eqCg (.agg #[.int .i64 x, .string p, .int .i64 y]) (.agg #[.int .i64 u, .string q, .int .i64 v])).run Tryz.prog w = .ok (.bool (x == u && (p.toList == q.toList && y == v))) w := by
 unfold eqCg
 rw [run_eql_struct, run_eq_chg]
 rfl
def ycj (G : Gst) (a b : Nat) (l : List ByteArray) : Gst := ⟨G.c, G.ps, fun i q => @ite _ (i = a ∧ q ∈ l) (@instDecidableAnd _ _ _ (@List.instDecidableMemOfLawfulBEq _ instBEqOfDecidableEq _ q l)) (ybv (G.pa a q) (G.pa b q)).1 (G.pa i q)⟩
theorem yti (G : Gst) (a b : Nat) : ycj G a b [] = G := by
 unfold ycj
 simp
theorem yqz {G : Gst} {a b : Nat} (hab : a ≠ b) {l : List ByteArray} {p : ByteArray} (hp : p ∉ l) : (⟨G.c, G.ps, ybn (ycj G a b l).pa a p (ybv ((ycj G a b l).pa a p) ((ycj G a b l).pa b p)).1⟩ : Gst) = ycj G a b (l ++ [p]) := by
 have e1 : (ycj G a b l).pa a p = G.pa a p := by unfold ycj; dsimp only; rw [if_neg (fun e => hp e.2)]
 have e2 : (ycj G a b l).pa b p = G.pa b p := by unfold ycj; dsimp only; rw [if_neg (fun e => hab e.1.symm)]
 rw [e1, e2]
 unfold ycj
 congr 1
 funext i q
 unfold ybn
 dsimp only
 by_cases h1 : i = a ∧ q = p
 ·rw [if_pos h1, if_pos ⟨h1.1, by rw [h1.2]; simp⟩, h1.2]
 ·rw [if_neg h1]
  by_cases h2 : i = a ∧ q ∈ l
  ·rw [if_pos h2, if_pos ⟨h2.1, List.mem_append.2 (.inl h2.2)⟩]
  ·rw [if_neg h2, if_neg ?_]
   rintro ⟨e, m⟩
   rcases List.mem_append.1 m with y | y
   ·exact h2 ⟨e, y⟩
   ·exact h1 ⟨e, by simpa using y⟩
def cntD (G : Gst) (a b : Nat) (l : List ByteArray) : Nat := (l.filter (fun q => decide (yap (G.pa a q) (G.pa b q) ≠ 0))).length
theorem cntD_le (G : Gst) (a b : Nat) (l : List ByteArray) : cntD G a b l ≤ l.length := List.length_filter_le _ _
theorem cntD_app (G : Gst) (a b : Nat) (l : List ByteArray) (p : ByteArray) : cntD G a b (l ++ [p]) = cntD G a b l + if yap (G.pa a p) (G.pa b p) = 0 then 0 else 1 := by
 unfold cntD
 rw [List.filter_append, List.length_append, List.filter_cons]
 by_cases h : yap (G.pa a p) (G.pa b p) = 0
 ·simp [h]
 ·simp [h]
def ylc (l : List (ByteArray × Int)) (p : ByteArray) (d : Int) : Bool := l.any (fun x => x.1.toList == p.toList && x.2 == d)
theorem ysf {l : List (ByteArray × Int)} {p : ByteArray} {d : Int} {k : Nat} {x : ByteArray × Int} (hk : l[k]? = some x) : ylc (l.take (k + 1)) p d = (ylc (l.take k) p d || (x.1.toList == p.toList && x.2 == d)) := by
 obtain ⟨hlt, ex⟩ := List.getElem?_eq_some_iff.1 hk
 rw [List.take_succ_eq_append_getElem hlt]
 unfold ylc
 rw [List.any_append, ex]
 simp
theorem isTold_of {l : List (ByteArray × Int)} {p : ByteArray} {d : Int} (h : (p, d) ∈ l) : ylc l p d = true := by
 unfold ylc
 rw [List.any_eq_true]
 exact ⟨_, h, by simp⟩
attribute [local go_sem ↓] eqChg
attribute [local go_sem] run_eqCg
section
variable {z : Nat} {w : World} {gb n : Nat} {ρ : Nat → Nat} {G : Gst} {D : GD}
theorem drawn_any (h : Gh z w gb n ρ G D (fun _ => G.ps)) (hzw : z ≤ w.heap.size) {a b : Nat} (ha : a < n) (hb : b < n) (hab : a ≠ b) (hl : G.ps.length ≤ 100000000) (hnd : G.ps.Nodup) (hle : ∀ p, (G.pa a p).heard.length + (G.pa b p).heard.length ≤ 100000000) {lv : Value} {l : List (ByteArray × Int)} (hrow : w.ownsRow 0 66 3 lv l.length (chv a l)) (hap : ∀ k, lv.ownBlock = some k → ρ k = 0)
  (T1 : ∀ q ∈ G.ps, yap (G.pa a q) (G.pa b q) ≠ 0 → (q, yap (G.pa a q) (G.pa b q)) ∈ l) (T2 : l.length = (G.ps.filter (fun q => decide (yap (G.pa a q) (G.pa b q) ≠ 0))).length) :
  Calls Tryz.prog 38 #[lv, .pointer (some ⟨gb, 0, none⟩), .int .i64 a, .int .i64 b] w fun e w' => e = .returned (.bool true) ∧ ∃ ρ' D', Gp z w w' gb n ρ (ycj G a b G.ps) D' (fun _ => G.ps) ρ' := by
 obtain ⟨la, lc, rfl⟩ := yam hrow
 have HR : Hid (∀ V, Fr (fun k => ρ k ≠ 0) w V → V.ownsRow 0 66 3 (.slice la l.length lc) l.length (chv a l)) := fun V hV => yae hrow (fun k e => hV.block k (World.ownsRow.lt hrow k e).2 (by simp [hap k e]))
 have P0 : Hid (Gp z w w gb n ρ (ycj G a b []) D (fun _ => G.ps) ρ) := by show Gp _ _ _ _ _ _ _ _ _ _; rw [yti]; exact Gp.refl h
 have HT1 := yab T1
 have HT2 := yab T2
 have HND := yab hnd
 have HLE := yab hle
 have n6 := h.n6
 have hll := yta hrow
 have CPL : Hid (∀ V ρ1 D1 (i : Nat) p, Gp z w V gb n ρ (ycj G a b (G.ps.take i)) D1 (fun _ => G.ps) ρ1 → G.ps[i]? = some p → Calls Tryz.prog 34 #[.pointer (some ⟨gb, 0, none⟩), .int .i64 a, .int .i64 b, .string p] V fun e w' => e = .returned (.int .i64 (yap (G.pa a p) (G.pa b p))) ∧ ∃ ρ' D', Gp z w w' gb n ρ (ycj G a b (G.ps.take (i + 1))) D' (fun _ => G.ps) ρ') := fun V ρ1 D1 i p hP hi => by
  have hpm : p ∈ G.ps := List.mem_of_getElem? hi
  obtain ⟨hlt, ei⟩ := List.getElem?_eq_some_iff.1 hi
  have hpt : p ∉ G.ps.take i := fun hm => by
   obtain ⟨j, hj, ej⟩ := List.getElem_of_mem hm
   have hj' : j < i := by rw [List.length_take] at hj; omega
   rw [List.getElem_take] at ej
   have := (List.pairwise_iff_getElem.1 hnd) j i (by omega) hlt hj'
   exact this (by rw [ej, ei])
  have e1 : (ycj G a b (G.ps.take i)).pa a p = G.pa a p := by unfold ycj; dsimp only; rw [if_neg (fun e => hpt e.2)]
  have e2 : (ycj G a b (G.ps.take i)).pa b p = G.pa b p := by unfold ycj; dsimp only; rw [if_neg (fun e => hab e.1.symm)]
  have C := yps hP.gh (by have := hP.fr.size; omega) ha hb p (fun hn => absurd hpm hn) hl hnd (by rw [e1, e2]; exact hle p)
  refine C.mono ?_
  rintro e w' ⟨rfl, ρ2, D2, hP2⟩
  have pl : yan p G.ps = G.ps := by unfold yan; rw [if_pos hpm]
  have pl' : yan p (ycj G a b (G.ps.take i)).ps = G.ps := pl
  rw [pl'] at hP2
  rw [e1, e2]
  refine ⟨rfl, ρ2, D2, ?_⟩
  have e3 : G.ps.take (i + 1) = G.ps.take i ++ [p] := by rw [List.take_succ_eq_append_getElem hlt, ei]
  rw [e3, ← yqz hab hpt]
  exact hP.trans hP2
 clear h hrow hap T1 T2 hnd hle
 go_enter Tryz.func38, Tryz.ntmps38
 go_wp2
 go_loopw [9, 10] (fun nv iv wr => ∃ i : Nat, i ≤ G.ps.length ∧ iv = .int .i64 i ∧ nv = .int .i64 (cntD G a b (G.ps.take i)) ∧ ∃ ρ1 D1, Hid (Gp z w wr gb n ρ (ycj G a b (G.ps.take i)) D1 (fun _ => G.ps) ρ1)) (fun _ iv _ => G.ps.length - (intOf iv).toNat)
 case atStart => exact ⟨0, Nat.zero_le _, rfl, rfl, ρ, D, P0⟩
 case round =>
  obtain ⟨i, hi, rfl, rfl, ρ1, D1, P1⟩ := hrel
  have c1 := P1.out.gh.c1
  obtain ⟨pa, pc, epv⟩ := yam P1.out.gh.pr
  rw [epv] at c1
  change wr.cell? ⟨gb, 1, none⟩ = some (.slice pa G.ps.length pc) at c1
  have hfl : cntD G a b (G.ps.take i) ≤ i := Nat.le_trans (cntD_le _ _ _ _) (by rw [List.length_take]; omega)
  by_cases hil : i < G.ps.length
  ·have d1 : decide ((i : Int) < (G.ps.length : Int)) = true := by simp; omega
   obtain ⟨p, hp⟩ : ∃ p, G.ps[i]? = some p := ⟨_, List.getElem?_eq_getElem hil⟩
   obtain ⟨pg, pc', epg, hpg, cp⟩ := P1.out.gh.path (i := i) (p := p) hp
   rw [epv] at epg
   cases epg
   have CC := yab (CPL.out _ _ _ i p P1.out hp)
   have HP := yab hp
   have ex : G.ps.take (i + 1) = G.ps.take i ++ [p] := by
    obtain ⟨hlt, e⟩ := List.getElem?_eq_some_iff.1 hp
    rw [List.take_succ_eq_append_getElem hlt, e]
   by_cases hd : yap (G.pa a p) (G.pa b p) = 0
   ·rw [hd] at CC
    have ef : cntD G a b (G.ps.take (i + 1)) = cntD G a b (G.ps.take i) := by rw [ex, cntD_app, if_pos hd, Nat.add_zero]
    clear hp ex
    go_wp2_with (go_at_call 34; refine CC.out.mono ?_; rintro e w1 ⟨rfl, ρ2, D2, hP2⟩; have P2 := yab hP2; clear hP2)
    go_roundw
    case rel => exact ⟨i + 1, by omega, by go_num, by rw [ef], ρ2, D2, P2⟩
    case measure => simp [intOf]; omega
   ·have ef : cntD G a b (G.ps.take (i + 1)) = cntD G a b (G.ps.take i) + 1 := by rw [ex, cntD_app, if_neg hd]
    have hin := HT1.out p (List.mem_of_getElem? hp) hd
    have hit := isTold_of hin
    generalize hdd : yap (G.pa a p) (G.pa b p) = d at *
    have d0 : (d == 0) = false := by simpa using hd
    clear hp ex
    go_wp2_with (go_at_call 34; refine CC.out.mono ?_; rintro e w1 ⟨rfl, ρ2, D2, hP2⟩; have P2 := yab hP2; have HL := yab (HR.out _ hP2.fr); clear hP2)
    have c2 := P2.out.gh.c1
    obtain ⟨pa2, pc2, epv2⟩ := yam P2.out.gh.pr
    obtain ⟨pg2, pc2', epg2, hpg2, cp2⟩ := P2.out.gh.path (i := i) (p := p) HP.out
    rw [epg2] at c2
    change w1.cell? ⟨gb, 1, none⟩ = some (.slice (some ⟨pg2, 0, none⟩) G.ps.length pc2') at c2
    have HL := yab (HR.out _ P2.out.fr)
    have lg2 := P2.out.gh.glt
    clear c1 cp hpg CC
    generalize cntD G a b (G.ps.take i) = m at *
    go_loopw [12, 13] (fun sv kv wr => ∃ k : Nat, k ≤ l.length ∧ kv = .int .i64 k ∧ sv = .bool (ylc (l.take k) p d) ∧ Hid (Below w1.heap.size w1 wr)) (fun _ kv _ => l.length - (intOf kv).toNat)
    case atStart => exact ⟨0, Nat.zero_le _, rfl, rfl, Below.refl _ _⟩
    case round =>
     obtain ⟨k, hk, rfl, rfl, hb1⟩ := hrel
     by_cases hkl : k < l.length
     ·have d2 : decide ((k : Int) < (l.length : Int)) = true := by simp; omega
      obtain ⟨x, hx⟩ : ∃ x, l[k]? = some x := ⟨_, List.getElem?_eq_getElem hkl⟩
      have et := ysf (p := p) (d := d) hx
      have g1 := (hb1.out.cell (p := ⟨gb, 1, none⟩) lg2).trans c2
      have g2 := (hb1.out.cell (p := ⟨pg2, i, none⟩) hpg2).trans cp2
      have RW := yae HL.out (fun k e => hb1.out.block k (World.ownsRow.lt HL.out k e).2)
      obtain ⟨lg, lc', elv, _, llt⟩ := World.ownsRow.form RW (by omega)
      cases elv
      obtain ⟨x0, x1, x2⟩ := chv_at a l k x hx
      have y0 := (World.ownsRow.cellAt RW _ (by omega)).trans x0
      have y1 := (World.ownsRow.cellAt RW _ (by omega)).trans x1
      have y2 := (World.ownsRow.cellAt RW _ (by omega)).trans x2
      clear x0 x1 x2 RW hx
      have BN : Hid (∀ q, Below w1.heap.size w1 (wr.drewN q)) := fun q => ⟨hb1.out.os, hb1.out.tape, hb1.out.output, hb1.out.size, hb1.out.block⟩
      cases his : ylc (l.take k) p d
      ·rw [his] at et
       cases hq : ((x.1.toList == p.toList) && (x.2 == d))
       all_goals
        rw [hq] at et
        go_wp2
        go_quiet (fail)
        go_wp2
        go_roundw
        case rel => exact ⟨k + 1, by omega, by go_num, by rw [et]; rfl, BN.out _⟩
        case measure => simp [intOf]; omega
      ·rw [his] at et
       go_wp2
       go_quiet (fail)
       go_wp2
       go_roundw
       case rel => exact ⟨k + 1, by omega, by go_num, by rw [et]; rfl, BN.out _⟩
       case measure => simp [intOf]; omega
     ·have ek : k = l.length := by omega
      subst ek
      have d2 : decide ((l.length : Int) < (l.length : Int)) = false := by simp
      rw [List.take_length, hit]
      have P3 := yab (P2.out.below hb1.out)
      go_wp2
      go_roundw
      case rel => exact ⟨i + 1, by omega, by go_num, by rw [ef]; go_num, ρ2, D2, P3⟩
      case measure => simp [intOf]; omega
  ·have ei : i = G.ps.length := by omega
   subst ei
   have d1 : decide ((G.ps.length : Int) < (G.ps.length : Int)) = false := by simp
   rw [List.take_length] at P1
   have e2 : cntD G a b (G.ps.take G.ps.length) = l.length := by rw [List.take_length]; exact HT2.out.symm
   rw [e2]
   go_wp2
   go_ret
   exact ⟨rfl, ρ1, D1, P1.out⟩
end
end Go.Proofs.YtaelaldmibgibaaGreat

namespace Go.Proofs.YtaelaldmibgibaaGreat
open Go.RowKit Go.Sim
open Classical
section
variable {w0 w w1 : World} {nb gb n : Nat} {S S1 : List RS} {G : Gst} {K : Nat → Prop} {M : Nat}
theorem ypt {z : Nat} {w : World} {ρ : Nat → Nat} {D : GD} (h : Gh z w gb n ρ G D (fun _ => G.ps)) (hzw : z ≤ w.heap.size) {a b : Nat} (ha : a < n) (hb : b < n) (p : ByteArray) (h0 : p ∉ G.ps → ∀ r, G.pa r p = yct) (hl : G.ps.length ≤ 100000000) (hnd : G.ps.Nodup) (hc : 0 ≤ G.c a ∧ G.c a ≤ 1000000000000) (hle : (G.pa a p).heard.length + (G.pa b p).heard.length ≤ 100000000) (hlm : (G.pa a p).made.length + (G.pa b p).made.length ≤ 100000000) (th : Bool) :
  Calls Tryz.prog 37 #[.pointer (some ⟨gb, 0, none⟩), .int .i64 a, .int .i64 b, .string p, .bool th] w fun e w' => e = .returned (.tuple #[]) ∧ ∃ ρ' D', Gp z w w' gb n ρ ⟨fun i => if i = a then G.c a + 1 else G.c i, yan p G.ps, ybn G.pa a p (rsP (G.pa a p) (G.pa b p) (a, G.c a + 1) th)⟩ D' (fun _ => yan p G.ps) ρ' := by
 cases th
 ·exact gResolve_F h hzw ha hb p h0 hl hnd hc hle hlm
 ·exact gResolve_T h hzw ha hb p h0 hl hnd hc hle hlm
theorem hg_resolve (h : Hh w0 w nb gb n S G K M) (hM : M ≤ 400000) (hm : Hm w0 w1 nb gb n S1 G K) {a b : Nat} (ha : a < n) (hb : b < n) (p : ByteArray) (th : Bool) :
  Calls (twin Tryz.prog pl) 37 #[.pointer (some ⟨gb, 0, none⟩), .int .i64 a, .int .i64 b, .string p, .bool th] w1 fun e w' => e = .returned (.tuple #[]) ∧ Hm w0 w' nb gb n S1 (bump G a p (rsP (G.pa a p) (G.pa b p) (a, G.c a + 1) th)) K ∧ KpH K w1 w' := by
 obtain ⟨pb, L, ρ, D, hN, h1, h2, hG, r1, r2, r3, r5⟩ := hm.ex
 obtain ⟨q0, q1, q2, q3⟩ := h.asks hM p
 have q4 := h.evs ha p
 have q5 := h.evs hb p
 refine (shared.calls (by decide) hm.fix (ypt hG hm.bel.size ha hb p q0 q1 q2 (q3 a ha) (by omega) (by omega) th) (fun e w' h => ⟨_, h.1⟩)).mono ?_
 rintro e w' ⟨⟨rfl, ρ', D', hP⟩, hx'⟩
 exact ⟨rfl, hm.ghost (G' := bump G a p (rsP (G.pa a p) (G.pa b p) (a, G.c a + 1) th)) hN h1 h2 hG r1 r2 r3 r5 hP hx'⟩
theorem hg_drawn (h : Hh w0 w nb gb n S G K M) (hM : M ≤ 400000) (hm : Hm w0 w1 nb gb n S1 G K) {a b : Nat} (ha : a < n) (hb : b < n) (hab : a ≠ b) {rv : Value} {base : Nat} {l : List (ByteArray × Int)} (hR : HmR w0 w1 nb gb n S1 G K rv) (hrow : w1.ownsRow base 66 3 rv l.length (chv a l))
  (T1 : ∀ q ∈ G.ps, yap (G.pa a q) (G.pa b q) ≠ 0 → (q, yap (G.pa a q) (G.pa b q)) ∈ l) (T2 : l.length = (G.ps.filter (fun q => decide (yap (G.pa a q) (G.pa b q) ≠ 0))).length) :
  Calls (twin Tryz.prog pl) 38 #[rv, .pointer (some ⟨gb, 0, none⟩), .int .i64 a, .int .i64 b] w1 fun e w' => e = .returned (.bool true) ∧ Hm w0 w' nb gb n S1 (ykp G a b) K ∧ KpH K w1 w' := by
 obtain ⟨pb, L, ρ, D, hN, h1, h2, hG, r1, r2, r3, r5, r4⟩ := hR
 obtain ⟨_, q1, q2, q3⟩ := h.asks hM ⟨#[]⟩
 refine (shared.calls (by decide) hm.fix (drawn_any hG hm.bel.size ha hb hab q1 q2 (fun p => by have := h.evs ha p; have := h.evs hb p; omega) (yaq hrow (fun _ _ => Nat.zero_le _)) r4 T1 T2) (fun e w' h => ⟨_, h.1⟩)).mono ?_
 rintro e w' ⟨⟨rfl, ρ', D', hP⟩, hx'⟩
 have ee : ycj G a b G.ps = ykp G a b := by
  obtain ⟨H, hg⟩ := h.hg
  unfold ycj ykp
  congr 1
  funext i q
  by_cases hi : i = a
  ·by_cases hq : q ∈ G.ps
   ·rw [if_pos ⟨hi, hq⟩, if_pos hi]
   ·rw [if_neg (fun e => hq e.2), if_pos hi, hg.new a q hq, hg.new b q hq, hg.new i q hq, pull00]
  ·rw [if_neg (fun e => hi e.1), if_neg hi]
 rw [ee] at hP
 exact ⟨rfl, hm.ghost (G' := ykp G a b) hN h1 h2 hG r1 r2 r3 r5 hP hx'⟩
theorem h_told (h : Hh w0 w nb gb n S G K M) {a : Nat} (ha : a < n) {p : ByteArray} (hp : p ∈ G.ps) :
  Calls (twin Tryz.prog pl) 13 #[.pointer (some ⟨nb, 0, none⟩), .pointer (some ⟨gb, 0, none⟩), .int .i64 a, .string p] w fun e w' => e = .returned (.bool true) ∧ Hh w0 w' nb gb n S G K M ∧ Below w.heap.size w w' := by
 obtain ⟨pb, L, ρ, D, hN, h1, h2, hG, r1, r2, r3, r5⟩ := h.hm.ex
 obtain ⟨H, hg⟩ := h.hg
 have hl := hg.len
 have haL : a < L.length := by have := hN.len; omega
 have hpo := hg.okp p hp
 have pz := yel hpo
 refine (shared.calls (by decide) h.hm.fix (told_any hG hN ha (List.getElem?_eq_getElem haL) (yey (by omega)) p hp hpo (by omega) (hg.read ha p)) (fun e w' h => ⟨_, h.1⟩)).mono ?_
 rintro e w' ⟨⟨rfl, hb⟩, hx'⟩
 exact ⟨rfl, ⟨(h.hm.more hb hx').1, h.hg, h.ps, h.ct⟩, hb⟩
theorem hg_of (hm : Hm w0 w1 nb gb n S1 G K) {a b : Nat} (ha : a < n) (hb : b < n) {p : ByteArray} (hp : p ∈ G.ps) : ∃ ma ha' mb hb', (EvL w1 ma (G.pa a p).made ∧ EvL w1 ha' (G.pa a p).heard) ∧ (EvL w1 mb (G.pa b p).made ∧ EvL w1 hb' (G.pa b p).heard) ∧
  (∀ V, Below w1.heap.size w1 V → ybf V → Calls (twin Tryz.prog pl) 36 #[.pointer (some ⟨gb, 0, none⟩), .int .i64 a, .string p] V fun e w' => e = .returned (pV (G.pa a p) ma ha') ∧ Below w1.heap.size w1 w' ∧ ybf w') ∧
  (∀ V, Below w1.heap.size w1 V → ybf V → Calls (twin Tryz.prog pl) 36 #[.pointer (some ⟨gb, 0, none⟩), .int .i64 b, .string p] V fun e w' => e = .returned (pV (G.pa b p) mb hb') ∧ Below w1.heap.size w1 w' ∧ ybf w') ∧
  (∀ V, Below w1.heap.size w1 V → ybf V → Calls (twin Tryz.prog pl) 35 #[pV (G.pa a p) ma ha', pV (G.pa b p) mb hb'] V fun e w' => e = .returned (.int .i64 (yap (G.pa a p) (G.pa b p))) ∧ Below w1.heap.size w1 w' ∧ ybf w') := by
 obtain ⟨pb, L, ρ, D, hN, h1, h2, hG, r1, r2, r3, r5⟩ := hm.ex
 have ea := hG.ev a ha p hp
 have eb := hG.ev b hb p hp
 refine ⟨_, _, _, _, ea, eb, fun V hV hF => ?_, fun V hV hF => ?_, fun V hV hF => ?_⟩
 ·refine (shared.calls (by decide) hF (yrx (hG.below hV) ha p hp) (fun e w' h => ⟨_, h.1⟩)).mono ?_
  rintro e w' ⟨⟨rfl, hb⟩, hx'⟩
  exact ⟨rfl, ycp hV hb, hx'⟩
 ·refine (shared.calls (by decide) hF (yrx (hG.below hV) hb p hp) (fun e w' h => ⟨_, h.1⟩)).mono ?_
  rintro e w' ⟨⟨rfl, hb⟩, hx'⟩
  exact ⟨rfl, ycp hV hb, hx'⟩
 ·refine (shared.calls (by decide) hF (ycn (ea.1.below hV) (ea.2.below hV) (eb.1.below hV) (eb.2.below hV)) (fun e w' h => ⟨_, h.1⟩)).mono ?_
  rintro e w' ⟨⟨rfl, hb⟩, hx'⟩
  exact ⟨rfl, ycp hV hb, hx'⟩
theorem yqb (p : ByteArray) (l : List ByteArray) : (yan p l).length ≤ l.length + 1 := by
 unfold yan
 split
 ·omega
 ·simp
theorem Hh.bumped (h : Hh w0 w nb gb n S G K M) {w2 : World} {S2 : List RS} {a : Nat} {p : ByteArray} {g : ycf} (hm : Hm w0 w2 nb gb n S2 (bump G a p g) K) (hg : ∃ H, HG n S2 (bump G a p g) H) : Hh w0 w2 nb gb n S2 (bump G a p g) K (M + 1) := by
 refine ⟨hm, hg, ?_, fun i hi => ?_⟩
 ·have := yqb p G.ps
  have := h.ps
  show (yan p G.ps).length ≤ _
  omega
 ·obtain ⟨H, hg'⟩ := hg
  obtain ⟨H0, hg0⟩ := h.hg
  have e := hg'.cnt i hi
  have e0 := hg0.cnt i hi
  have c := h.ct i hi
  rw [← e]
  show (if i = a then G.c a + 1 else G.c i) ≤ _
  split
  ·next q => rw [← q, e0]; omega
  ·rw [e0]; omega
theorem Hh.pulled (h : Hh w0 w nb gb n S G K M) {w2 : World} {S2 : List RS} {G2 : Gst} (hm : Hm w0 w2 nb gb n S2 G2 K) (hg : ∃ H, HG n S2 G2 H) (hc : G2.c = G.c) (hp : G2.ps.length ≤ M + 1) : Hh w0 w2 nb gb n S2 G2 K (M + 1) := by
 refine ⟨hm, hg, hp, fun i hi => ?_⟩
 obtain ⟨H, hg'⟩ := hg
 obtain ⟨H0, hg0⟩ := h.hg
 have e := hg'.cnt i hi
 have e0 := hg0.cnt i hi
 have c := h.ct i hi
 rw [← e, hc, e0]
 omega
theorem Hh.same (h : Hh w0 w nb gb n S G K M) {w2 : World} (hm : Hm w0 w2 nb gb n S G K) : Hh w0 w2 nb gb n S G K (M + 1) := ⟨hm, h.hg, by have := h.ps; omega, fun i hi => by have := h.ct i hi; omega⟩
end
end Go.Proofs.YtaelaldmibgibaaGreat

namespace Go.Proofs.YtaelaldmibgibaaGreat
open Go.RowKit Go.Sim
open Classical
theorem yfv : (twin Tryz.prog pl).funcs[12]? = some Tryz.f12 := yjh Tryz.func12 (by decide) (by kernel_rfl)
@[simp] theorem q_call12 (args : Array Value) (w : World) : (callFunc 12 args).run (twin Tryz.prog pl) w = .ok (.enter 12 args) w := yjg yfv (by kernel_rfl) (by kernel_rfl) args w
@[simp] theorem q_call9 (args : Array Value) (w : World) : (callFunc 9 args).run (twin Tryz.prog pl) w = .ok (.enter 9 args) w := yco (by decide) args w
@[simp] theorem q_call11 (args : Array Value) (w : World) : (callFunc 11 args).run (twin Tryz.prog pl) w = .ok (.enter 11 args) w := yco (by decide) args w
@[simp] theorem q_call13 (args : Array Value) (w : World) : (callFunc 13 args).run (twin Tryz.prog pl) w = .ok (.enter 13 args) w := yco (by decide) args w
@[simp] theorem q_call33 (args : Array Value) (w : World) : (callFunc 33 args).run (twin Tryz.prog pl) w = .ok (.enter 33 args) w := yco (by decide) args w
@[simp] theorem q_call34 (args : Array Value) (w : World) : (callFunc 34 args).run (twin Tryz.prog pl) w = .ok (.enter 34 args) w := yco (by decide) args w
@[simp] theorem q_call35 (args : Array Value) (w : World) : (callFunc 35 args).run (twin Tryz.prog pl) w = .ok (.enter 35 args) w := yco (by decide) args w
@[simp] theorem q_call36 (args : Array Value) (w : World) : (callFunc 36 args).run (twin Tryz.prog pl) w = .ok (.enter 36 args) w := yco (by decide) args w
@[simp] theorem q_call37 (args : Array Value) (w : World) : (callFunc 37 args).run (twin Tryz.prog pl) w = .ok (.enter 37 args) w := yco (by decide) args w
@[simp] theorem q_call38 (args : Array Value) (w : World) : (callFunc 38 args).run (twin Tryz.prog pl) w = .ok (.enter 38 args) w := yco (by decide) args w
structure OpO where
 k : Int
 r : Int
 f : Int
 p : ByteArray
 t : ByteArray
 th : Bool
 a : Option Addr
 n : Nat
 c : Nat
def OpO.val (o : OpO) : Value := .agg #[.int .i64 o.k, .int .i64 o.r, .int .i64 o.f, .string o.p, .string o.t, .bool o.th, .slice o.a o.n o.c]
structure OpAt (V : World) (b : Nat) (o : OpO) : Prop where
 blk : V.heap[b]? = some (.cells #[.int .i64 o.k, .int .i64 o.r, .int .i64 o.f, .string o.p, .string o.t, .bool o.th, .slice o.a o.n o.c] 34 (0, 0))
theorem OpAt.cells {V : World} {b : Nat} {o : OpO} (h : OpAt V b o) : V.cell? ⟨b, 0, none⟩ = some (.int .i64 o.k) ∧ V.cell? ⟨b, 1, none⟩ = some (.int .i64 o.r) ∧ V.cell? ⟨b, 2, none⟩ = some (.int .i64 o.f) ∧ V.cell? ⟨b, 3, none⟩ = some (.string o.p) ∧ V.cell? ⟨b, 4, none⟩ = some (.string o.t) ∧ V.cell? ⟨b, 5, none⟩ = some (.bool o.th) := by
 simp only [World.cell?, h.blk]
 exact ⟨rfl, rfl, rfl, rfl, rfl, rfl⟩
theorem OpAt.keep {V V' : World} {b : Nat} {o : OpO} (h : OpAt V b o) (hk : V'.heap[b]? = V.heap[b]?) : OpAt V' b o := ⟨hk.trans h.blk⟩
section
variable {w0 w : World} {nb gb n : Nat} {S : List RS} {G : Gst} {K : Nat → Prop} {M : Nat}
theorem Hm.less (h : Hm w0 w nb gb n S G K) {K' : Nat → Prop} (hk : ∀ k, K' k → K k) : Hm w0 w nb gb n S G K' := by
 obtain ⟨pb, L, ρ, D, hN, h1, h2, hG, r1, r2, r3, r5⟩ := h.ex
 exact ⟨⟨pb, L, ρ, D, hN, h1, h2, hG, r1, r2, r3, fun k q => r5 k (hk k q)⟩, h.nge, h.bel, h.fix⟩
theorem Hh.less (h : Hh w0 w nb gb n S G K M) {K' : Nat → Prop} (hk : ∀ k, K' k → K k) : Hh w0 w nb gb n S G K' M := ⟨h.hm.less hk, h.hg, h.ps, h.ct⟩
theorem Hh.boxed (h : Hh w0 w nb gb n S G K M) (cs : Array Value) (t : TypeId) : Hh w0 (w.alloc (.cells cs t)) nb gb n S G (fun k => k = w.heap.size) M := by
 have hb : Below w.heap.size w (w.alloc (.cells cs t)) := (Below.refl _ _).alloc (Nat.le_refl _) _
 obtain ⟨pb, L, ρ, D, hN, h1, h2, hG, r1, r2, r3, r5⟩ := h.hm.ex
 have hLB : ∀ x ∈ L, x.1 < w.heap.size ∧ x.2 < w.heap.size := fun z hz => by
  obtain ⟨i, hi⟩ := List.getElem?_of_mem hz
  have hil : i < S.length := by have := (List.getElem?_eq_some_iff.1 hi).1; have := hN.len; omega
  have q := hN.rep i z _ hi (List.getElem?_eq_getElem hil)
  exact ⟨q.rep.lt, q.own.lt⟩
 refine ⟨⟨⟨pb, L, ρ, D, hN.below hb, h1, h2, hG.below hb, r1, r2, r3, fun k hk => ?_⟩, h.hm.nge, (h.hm.more hb (ybf.alloc h.hm.fix _ _)).1.bel, ybf.alloc h.hm.fix _ _⟩, h.hg, h.ps, h.ct⟩
 subst hk
 have n1 := hN.nlt
 have n2 := hN.plt
 refine ⟨by simp, by omega, by omega, fun x hx => ?_, ?_⟩
 ·have := hLB x hx
  exact ⟨by omega, by omega⟩
 ·rcases Nat.eq_zero_or_pos (ρ w.heap.size) with y | y
  ·exact y
  ·have := hG.lt w.heap.size (by omega); omega
def ybu (w0 w : World) (nb gb n M : Nat) (o : OpO) : Prop := Calls (twin Tryz.prog pl) 12 #[.pointer (some ⟨nb, 0, none⟩), .pointer (some ⟨gb, 0, none⟩), o.val] w fun e w' => e = .returned (.bool true) ∧ ∃ S' G', Hh w0 w' nb gb n S' G' (fun _ => False) (M + 1)
theorem ynx (h : Hh w0 w nb gb n S G K M) (hM : M ≤ 300000) (o : OpO) (hk : o.k = 1) (hp : o.p.size ≤ 1000000000000) (ht : o.t.size ≤ 1000000000000) : ybu w0 w nb gb n M o := by
 unfold ybu OpO.val
 have H1 := yab (h.boxed #[.int .i64 o.k, .int .i64 o.r, .int .i64 o.f, .string o.p, .string o.t, .bool o.th, .slice o.a o.n o.c] 34)
 have O1 : Hid (OpAt (w.alloc (.cells #[.int .i64 o.k, .int .i64 o.r, .int .i64 o.f, .string o.p, .string o.t, .bool o.th, .slice o.a o.n o.c] 34)) w.heap.size o) := ⟨heap_alloc_new _ _⟩
 have CW := yab (hn_write H1.out (by omega) o.r o.p o.t hp ht)
 have GW : Hid (∀ V S1 a, Hm w0 V nb gb n S1 G (fun k => k = w.heap.size) → a < n → Calls (twin Tryz.prog pl) 11 #[.pointer (some ⟨gb, 0, none⟩), .int .i64 (a : Nat), .string o.p, .string o.t] V fun e w' => e = .returned (.tuple #[]) ∧ Hm w0 w' nb gb n S1 (bump G a o.p (wrP (G.pa a o.p) (a, G.c a + 1) o.t)) (fun k => k = w.heap.size)) := fun V S1 a hm ha => (hg_write H1.out (by omega) hm ha o.p o.t).mono (fun e w' q => ⟨q.1, q.2.1⟩)
 obtain ⟨k0, k1, k2, k3, k4, k5⟩ := O1.out.cells
 rw [hk] at H1 O1 CW k0 k1 k2 k3 k4 k5 ⊢
 clear k2 k5 h hp ht
 go_enter yfv, Tryz.ntmps12
 go_wp2_with (first
  |(go_at_call 10; refine CW.out.mono ?_; rintro e w1 ⟨er, S1, rfl, hm1, kp1, hc⟩; have HM1 := yab hm1; have O2 := O1.out.keep (kp1 _ rfl); obtain ⟨k0, k1, k2, k3, k4, k5⟩ := O2.cells; clear hm1 kp1 O2 k0 k2 k5 CW; rcases hc with ⟨hne, rfl⟩ | ⟨rfl, a, ha, hr, hpo, hwr, rfl⟩ <;> first | (rw [hr] at k1) | (have d0 : (er == 0) = false := (by simpa using hne)))
  |(go_at_call 11; refine (GW.out _ _ _ HM1.out ha).mono ?_; rintro e w2 ⟨rfl, hm2⟩; have HM2 := yab hm2; clear hm2))
 ·go_ret
  exact ⟨rfl, S1, G, (H1.out.same HM1.out).less (fun _ q => q.elim)⟩
 ·go_ret
  obtain ⟨HH, hg⟩ := H1.out.hg
  exact ⟨rfl, _, _, (H1.out.bumped HM2.out (hg.write ha hpo hwr)).less (fun _ q => q.elim)⟩
end
end Go.Proofs.YtaelaldmibgibaaGreat

namespace Go.Proofs.YtaelaldmibgibaaGreat
open Go.RowKit Go.Sim
open Classical
section
variable {w0 w : World} {nb gb n : Nat} {S : List RS} {G : Gst} {K : Nat → Prop} {M : Nat}
theorem ymi (h : Hh w0 w nb gb n S G K M) (hM : M ≤ 300000) (o : OpO) (hk : o.k = 2) (hp : o.p.size ≤ 1000000000000) : ybu w0 w nb gb n M o := by
 unfold ybu OpO.val
 have H1 := yab (h.boxed #[.int .i64 o.k, .int .i64 o.r, .int .i64 o.f, .string o.p, .string o.t, .bool o.th, .slice o.a o.n o.c] 34)
 have O1 : Hid (OpAt (w.alloc (.cells #[.int .i64 o.k, .int .i64 o.r, .int .i64 o.f, .string o.p, .string o.t, .bool o.th, .slice o.a o.n o.c] 34)) w.heap.size o) := ⟨heap_alloc_new _ _⟩
 have CW := yab (hn_remove H1.out (by omega) o.r o.p hp)
 have GW : Hid (∀ V S1 a, Hm w0 V nb gb n S1 G (fun k => k = w.heap.size) → a < n → Calls (twin Tryz.prog pl) 33 #[.pointer (some ⟨gb, 0, none⟩), .int .i64 (a : Nat), .string o.p] V fun e w' => e = .returned (.tuple #[]) ∧ Hm w0 w' nb gb n S1 (bump G a o.p (rmP (G.pa a o.p) (a, G.c a + 1))) (fun k => k = w.heap.size)) := fun V S1 a hm ha => (hg_remove H1.out (by omega) hm ha o.p).mono (fun e w' q => ⟨q.1, q.2.1⟩)
 obtain ⟨k0, k1, k2, k3, k4, k5⟩ := O1.out.cells
 rw [hk] at H1 O1 CW k0 k1 k2 k3 k4 k5 ⊢
 clear k2 k5 h hp
 go_enter yfv, Tryz.ntmps12
 go_wp2_with (first
  |(go_at_call 21; refine CW.out.mono ?_; rintro e w1 ⟨er, S1, rfl, hm1, kp1, hc⟩; have HM1 := yab hm1; have O2 := O1.out.keep (kp1 _ rfl); obtain ⟨k0, k1, k2, k3, k4, k5⟩ := O2.cells; clear hm1 kp1 O2 k0 k2 k5 CW; rcases hc with ⟨hne, rfl⟩ | ⟨rfl, a, ha, hr, hpo, hwr, rfl⟩ <;> first | (rw [hr] at k1) | (have d0 : (er == 0) = false := (by simpa using hne)))
  |(go_at_call 33; refine (GW.out _ _ _ HM1.out ha).mono ?_; rintro e w2 ⟨rfl, hm2⟩; have HM2 := yab hm2; clear hm2))
 ·go_ret
  exact ⟨rfl, S1, G, (H1.out.same HM1.out).less (fun _ q => q.elim)⟩
 ·go_ret
  obtain ⟨HH, hg⟩ := H1.out.hg
  exact ⟨rfl, _, _, (H1.out.bumped HM2.out (hg.remove ha hpo hwr)).less (fun _ q => q.elim)⟩
theorem ypp (h : Hh w0 w nb gb n S G K M) (hM : M ≤ 300000) (o : OpO) (hk : o.k = 7) (hp : o.p.size ≤ 1000000000000) : ybu w0 w nb gb n M o := by
 unfold ybu OpO.val
 have H1 := yab (h.boxed #[.int .i64 o.k, .int .i64 o.r, .int .i64 o.f, .string o.p, .string o.t, .bool o.th, .slice o.a o.n o.c] 34)
 have O1 : Hid (OpAt (w.alloc (.cells #[.int .i64 o.k, .int .i64 o.r, .int .i64 o.f, .string o.p, .string o.t, .bool o.th, .slice o.a o.n o.c] 34)) w.heap.size o) := ⟨heap_alloc_new _ _⟩
 have CW := yab (hn_path H1.out (by omega) o.r o.f o.p hp)
 have GW : Hid (∀ V S1 a b, Hm w0 V nb gb n S1 G (fun k => k = w.heap.size) → a < n → b < n → Calls (twin Tryz.prog pl) 34 #[.pointer (some ⟨gb, 0, none⟩), .int .i64 (a : Nat), .int .i64 (b : Nat), .string o.p] V fun e w' => e = .returned (.int .i64 (yap (G.pa a o.p) (G.pa b o.p))) ∧ Hm w0 w' nb gb n S1 (yoo G a b o.p) (fun k => k = w.heap.size)) := fun V S1 a b hm ha hb => (hg_pull H1.out (by omega) hm ha hb o.p).mono (fun e w' q => ⟨q.1, q.2.1⟩)
 obtain ⟨k0, k1, k2, k3, k4, k5⟩ := O1.out.cells
 rw [hk] at H1 O1 CW k0 k1 k2 k3 k4 k5 ⊢
 clear k5 h hp
 go_enter yfv, Tryz.ntmps12
 go_wp2_with (first
  |(go_at_call 26; refine CW.out.mono ?_; rintro e w1 ⟨wh, er, S1, rfl, hm1, kp1, hc⟩; have HM1 := yab hm1; have O2 := O1.out.keep (kp1 _ rfl); obtain ⟨k0, k1, k2, k3, k4, k5⟩ := O2.cells; clear hm1 kp1 O2 k0 k5 CW; rcases hc with ⟨hne, rfl⟩ | ⟨rfl, a, b, ha, hb, hab, hr, hf, hpo, hwr, rfl, rfl⟩ <;> first | (rw [hr] at k1; rw [hf] at k2; obtain ⟨HH, hg⟩ := H1.out.hg; have HQ := yab (hg.path ha hb hpo hwr); have GC := yab (GW.out _ _ _ _ HM1.out ha hb); rw [← HQ.out.1] at GC; have dq : ((ppR a (S.getD a rs0) b (S.getD b rs0) o.p).1 == (ppR a (S.getD a rs0) b (S.getD b rs0) o.p).1) = true := (by simp); clear hwr) | (have d0 : (er == 0) = false := (by simpa using hne)))
  |(go_at_call 34; refine GC.out.mono ?_; rintro e w2 ⟨rfl, hm2⟩; have HM2 := yab hm2; clear hm2))
 ·go_ret
  exact ⟨rfl, S1, G, (H1.out.same HM1.out).less (fun _ q => q.elim)⟩
 ·go_ret
  refine ⟨by simp, _, _, (H1.out.pulled HM2.out ⟨_, HQ.out.2⟩ rfl ?_).less (fun _ q => q.elim)⟩
  have := yqb o.p G.ps
  have := H1.out.ps
  show (yan o.p G.ps).length ≤ _
  omega
theorem ypq (h : Hh w0 w nb gb n S G K M) (hM : M ≤ 300000) (o : OpO) (hk : o.k = 8) : ybu w0 w nb gb n M o := by
 unfold ybu OpO.val
 have H1 := yab (h.boxed #[.int .i64 o.k, .int .i64 o.r, .int .i64 o.f, .string o.p, .string o.t, .bool o.th, .slice o.a o.n o.c] 34)
 have O1 : Hid (OpAt (w.alloc (.cells #[.int .i64 o.k, .int .i64 o.r, .int .i64 o.f, .string o.p, .string o.t, .bool o.th, .slice o.a o.n o.c] 34)) w.heap.size o) := ⟨heap_alloc_new _ _⟩
 have CW := yab (hn_pull H1.out (by omega) o.r o.f)
 have GW : Hid (∀ V S1 a b rv base, Hm w0 V nb gb n S1 G (fun k => k = w.heap.size) → a < n → b < n → a ≠ b → HmR w0 V nb gb n S1 G (fun k => k = w.heap.size) rv → V.ownsRow base 66 3 rv (plR a (S.getD a rs0) b (S.getD b rs0)).2.2.length (chv a (plR a (S.getD a rs0) b (S.getD b rs0)).2.2) → (plR a (S.getD a rs0) b (S.getD b rs0)).1 = 0 → Calls (twin Tryz.prog pl) 38 #[rv, .pointer (some ⟨gb, 0, none⟩), .int .i64 (a : Nat), .int .i64 (b : Nat)] V fun e w' => e = .returned (.bool true) ∧ Hm w0 w' nb gb n S1 (ykp G a b) (fun k => k = w.heap.size)) := fun V S1 a b rv base hm ha hb hab hR hrow ho => by
  obtain ⟨HH, hg⟩ := H1.out.hg
  obtain ⟨T1, T2⟩ := hg.told ha hb ho
  exact (hg_drawn H1.out (by omega) hm ha hb hab hR hrow T1 T2).mono (fun e w' q => ⟨q.1, q.2.1⟩)
 obtain ⟨k0, k1, k2, k3, k4, k5⟩ := O1.out.cells
 rw [hk] at H1 O1 CW k0 k1 k2 k3 k4 k5 ⊢
 clear k3 k4 k5 h
 go_enter yfv, Tryz.ntmps12
 go_wp2_with (first
  |(go_at_call 22; refine CW.out.mono ?_; rintro e w1 ⟨rv, er, S1, rfl, hm1, kp1, hc⟩; have HM1 := yab hm1; have O2 := O1.out.keep (kp1 _ rfl); obtain ⟨k0, k1, k2, k3, k4, k5⟩ := O2.cells; clear hm1 kp1 O2 k0 k3 k4 k5 CW; rcases hc with ⟨hne, rfl⟩ | ⟨rfl, a, b, ha, hb, hab, hr, hf, hwr, rfl, hrow, hR⟩ <;> first | (rw [hr] at k1; rw [hf] at k2; have GC := yab (GW.out _ _ _ _ _ _ HM1.out ha hb hab hR hrow hwr); have HWR := yab hwr; clear hwr hrow hR) | (have d0 : (er == 0) = false := (by simpa using hne)))
  |(go_at_call 38; refine GC.out.mono ?_; rintro e w2 ⟨rfl, hm2⟩; have HM2 := yab hm2; clear hm2))
 ·go_ret
  exact ⟨rfl, S1, G, (H1.out.same HM1.out).less (fun _ q => q.elim)⟩
 ·go_ret
  obtain ⟨HH, hg⟩ := H1.out.hg
  exact ⟨rfl, _, _, (H1.out.pulled HM2.out ⟨_, hg.pullAll ha hb HWR.out⟩ rfl (by have := H1.out.ps; show G.ps.length ≤ _; omega)).less (fun _ q => q.elim)⟩
theorem ypo (h : Hh w0 w nb gb n S G K M) (o : OpO) (h1 : o.k ≠ 1) (h2 : o.k ≠ 2) (h7 : o.k ≠ 7) (h9 : o.k ≠ 9) (h8 : o.k ≠ 8) : ybu w0 w nb gb n M o := by
 unfold ybu OpO.val
 have H1 := yab (h.boxed #[.int .i64 o.k, .int .i64 o.r, .int .i64 o.f, .string o.p, .string o.t, .bool o.th, .slice o.a o.n o.c] 34)
 have O1 : Hid (OpAt (w.alloc (.cells #[.int .i64 o.k, .int .i64 o.r, .int .i64 o.f, .string o.p, .string o.t, .bool o.th, .slice o.a o.n o.c] 34)) w.heap.size o) := ⟨heap_alloc_new _ _⟩
 obtain ⟨k0, k1, k2, k3, k4, k5⟩ := O1.out.cells
 have d1 : (o.k == 1) = false := by simpa using h1
 have d2 : (o.k == 2) = false := by simpa using h2
 have d7 : (o.k == 7) = false := by simpa using h7
 have d9 : (o.k == 9) = false := by simpa using h9
 have d8 : (o.k == 8) = false := by simpa using h8
 clear k1 k2 k3 k4 k5 h h1 h2 h7 h9 h8
 go_enter yfv, Tryz.ntmps12
 go_wp2_with fail
 go_ret
 exact ⟨rfl, S, G, (H1.out.same H1.out.hm).less (fun _ q => q.elim)⟩
end
end Go.Proofs.YtaelaldmibgibaaGreat
