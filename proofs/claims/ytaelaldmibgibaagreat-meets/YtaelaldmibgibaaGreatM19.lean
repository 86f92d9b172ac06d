/- All pull from all: rounds; have two replicas the same files: alike. Over the twin. Have two replicas the same files: alike, over the twin. The states of a net that has begun may be. Meets over the twin. -/
import Derived.Test.YtaelaldmibgibaaGreatM16
import Derived.Test.YtaelaldmibgibaaGreatM18
import Derived.BigQuiet
import Derived.Deep.QuietTactic

set_option linter.unusedVariables false
set_option linter.unusedSimpArgs false
set_option linter.unusedSectionVars false

namespace Go.Proofs.YtaelaldmibgibaaGreat
open Go.RowKit Go.Sim

theorem q_func17 : (twin Tryz.prog pl).funcs[17]? = some Tryz.f17 := tw_func Tryz.func17 (by decide) (by kernel_rfl)
theorem q_func18 : (twin Tryz.prog pl).funcs[18]? = some Tryz.f18 := tw_func Tryz.func18 (by decide) (by kernel_rfl)
@[simp] theorem q_call17 (args : Array Value) (w : World) : (callFunc 17 args).run (twin Tryz.prog pl) w = .ok (.enter 17 args) w := tw_call q_func17 (by kernel_rfl) (by kernel_rfl) args w
@[simp] theorem q_call18 (args : Array Value) (w : World) : (callFunc 18 args).run (twin Tryz.prog pl) w = .ok (.enter 18 args) w := q_call (by decide) args w
@[simp] theorem q_call39 (args : Array Value) (w : World) : (callFunc 39 args).run (twin Tryz.prog pl) w = .ok (.enter 39 args) w := q_call (by decide) args w
structure Rn (w0 w : World) (nb n : Nat) (B : Int) (K : List Nat) (S : List RS) : Prop where
  ne : Ne w0 w nb S K
  len : S.length = n
  wf : Wf B S
  iv : IvS S
theorem pull_len {B : Int} {x y : RS} {r f : Nat} (hx : Wf1 B x) (hy : Wf1 B y) (h0 : 0 ≤ B) : (plR r x f y).2.2.length ≤ 20 := by
  rw [(pl_wf hx hy h0).2.2.1]
  have q1 := (accP_len r x.cm x.E f y.cm y.E (unionK (x.E.map (·.1)) (y.E.map (·.1))) ([], [])).2
  have q2 := union_len (y.E.map (·.1)) (x.E.map (·.1))
  have q3 := hx.len
  have q4 := hy.len
  rw [List.length_map, List.length_map] at q2
  show ((unionK (x.E.map (·.1)) (y.E.map (·.1))).foldl (stepA r x.cm x.E f y.cm y.E) ([], [])).2.length ≤ _
  simp only [List.length_nil] at q1
  omega
theorem rn_pull {w0 w : World} {nb n : Nat} {B : Int} {K : List Nat} {S : List RS} (h : Rn w0 w nb n B K S) (h6 : n ≤ 6) (h0 : 0 ≤ B) {r f : Nat} (hr : r < n) (hf : f < n) (hrf : r ≠ f) :
    Calls (twin Tryz.prog pl) 22 #[.pointer (some ⟨nb, 0, none⟩), .int .i64 r, .int .i64 f] w fun e w' => ∃ c1 c3, e = .returned (.tuple #[.slice c1 (pullL S r f).length c3, .int .i64 0]) ∧ Rn w0 w' nb n B K (pullS S r f) := by
  have hl := h.len
  have hx := getD_at (S := S) (r := r) (by omega)
  have hy := getD_at (S := S) (r := f) (by omega)
  have wx := h.wf.at hx
  have wy := h.wf.at hy
  refine (ePull h.ne r f hrf hx hy).mono ?_
  rintro e w' ⟨rv, rfl, h1, _, h3⟩
  obtain ⟨c1, c3, rfl⟩ : ∃ c1 c3, rv = .slice c1 (pullL S r f).length c3 := by
    rcases h3.2 with ⟨e, q⟩ | ⟨g, cap, cur, e, _⟩
    · exact ⟨none, 0, by rw [e]; unfold pullL; rw [q]⟩
    · exact ⟨_, _, e⟩
  rw [(pl_wf wx wy h0).1]
  exact ⟨c1, c3, rfl, h1, by rw [pullS_len]; exact hl, h.wf.set r (pl_wf wx wy h0).2.1, ivs_pull (by omega) h.iv h0 h.wf (by omega) (by omega)⟩
set_option maxRecDepth 100000 in
set_option maxHeartbeats 2000000 in
theorem rounds_any {w0 w : World} {nb n : Nat} {B : Int} {K : List Nat} {S : List RS} (h : Rn w0 w nb n B K S) (hn : 2 ≤ n) (h6 : n ≤ 6) (h0 : 0 ≤ B) (tm : Nat) (h1 : 1 ≤ tm) (h4 : tm ≤ 4) :
    Calls (twin Tryz.prog pl) 17 #[.pointer (some ⟨nb, 0, none⟩), .int .i64 n, .int .i64 tm] w fun e w' => ∃ (sm : Nat) (S' : List RS), e = .returned (.tuple #[.int .i64 sm, .bool true]) ∧ Rn w0 w' nb n B K S' ∧ (sm = 0 → ∀ j, 1 ≤ j → j < n → EqF (S'.getD 0 rs0) (S'.getD j rs0)) := by
  have H0 := hide h
  clear h
  go_enter q_func17, Tryz.ntmps17
  go_wp2_with fail
  go_loopw [8, 9] (fun sv kv wr => ∃ (k sm : Nat) (S' : List RS), k ≤ tm ∧ sm ≤ 2000 ∧ kv = .int .i64 k ∧ sv = .int .i64 sm ∧ Hid (Rn w0 wr nb n B K S') ∧ Hid (0 < k → sm = 0 → ∀ j, 1 ≤ j → j < n → EqF (S'.getD 0 rs0) (S'.getD j rs0))) (fun _ kv _ => tm - (intOf kv).toNat)
  case atStart => exact ⟨0, 0, S, Nat.zero_le _, Nat.zero_le _, rfl, rfl, H0, fun q => absurd q (by omega)⟩
  case round =>
    clear H0
    obtain ⟨k, sm, S1, hk, hsm, rfl, rfl, hR, hE⟩ := hrel
    by_cases hkt : k < tm
    · have d1 : decide ((k : Int) < (tm : Int)) = true := by simp; omega
      go_wp2_with fail
      have P0 : Hid ((0 : Nat) = 0 → PH n S1 0 0) := fun _ => PH.start n S1
      clear hE
      go_loopw [8, 10] (fun sv rv wr2 => ∃ (r sm : Nat) (S' : List RS), r ≤ n ∧ sm ≤ 120 * r ∧ rv = .int .i64 r ∧ sv = .int .i64 sm ∧ Hid (Rn w0 wr2 nb n B K S') ∧ Hid (sm = 0 → PH n S' r 0)) (fun _ rv _ => n - (intOf rv).toNat)
      case atStart => exact ⟨0, 0, S1, Nat.zero_le _, Nat.zero_le _, rfl, rfl, hR, P0⟩
      case round =>
        clear P0 hR
        obtain ⟨r, sm, S2, hr, hsm2, rfl, rfl, hR, hP⟩ := hrel
        by_cases hrn : r < n
        · have d2 : decide ((r : Int) < (n : Int)) = true := by simp; omega
          go_wp2_with fail
          go_loopw [8, 11] (fun sv fv wr3 => ∃ (f sm : Nat) (S' : List RS), f ≤ n ∧ sm ≤ 120 * r + 20 * f ∧ fv = .int .i64 f ∧ sv = .int .i64 sm ∧ Hid (Rn w0 wr3 nb n B K S') ∧ Hid (sm = 0 → PH n S' r f)) (fun _ fv _ => n - (intOf fv).toNat)
          case atStart => exact ⟨0, sm, S2, Nat.zero_le _, by omega, rfl, rfl, hR, hP⟩
          case round =>
            clear hP hR
            obtain ⟨f, sm, S3, hf, hsm3, rfl, rfl, hR, hP⟩ := hrel
            by_cases hfn : f < n
            · have d3 : decide ((f : Int) < (n : Int)) = true := by simp; omega
              by_cases hfr : f = r
              · subst hfr
                have P4 : Hid (sm = 0 → PH n S3 f (f + 1)) := fun q => (hP.out q).skip
                go_wp2
                go_roundw
                case rel => exact ⟨f + 1, sm, S3, by omega, by omega, by go_num, rfl, hR, P4⟩
                case measure => simp [intOf]; omega
              · have d4 : ((f : Int) == (r : Int)) = false := by simp; omega
                have RP := hide (rn_pull hR.out h6 h0 hrn hfn (fun e => hfr e.symm))
                have LL := hide (pull_len (r := r) (f := f) (hR.out.wf.at (getD_at (S := S3) (r := r) (by have := hR.out.len; omega))) (hR.out.wf.at (getD_at (S := S3) (r := f) (by have := hR.out.len; omega))) h0)
                have P4 : Hid (sm + (pullL S3 r f).length = 0 → PH n (pullS S3 r f) r (f + 1)) := fun q => PH.step h6 hR.out.len h0 hR.out.wf hR.out.iv hrn hfn (fun e => hfr e.symm) (hP.out (by omega)) (List.length_eq_zero_iff.1 (by omega))
                have LM : (pullL S3 r f).length ≤ 20 := LL.out
                clear LL
                generalize (pullL S3 r f).length = m at *
                go_wp2_with (go_at_call 22; refine RP.out.mono ?_; rintro e w5 ⟨c1, c3, rfl, hR5⟩; have R5 := hide hR5; clear hR5)
                go_roundw
                case rel => exact ⟨f + 1, sm + m, pullS S3 r f, by omega, by omega, by go_num, by go_num, R5, P4⟩
                case measure => simp [intOf]; omega
            · have ef : f = n := by omega
              subst ef
              have d3 : decide ((f : Int) < (f : Int)) = false := by simp
              have P4 : Hid (sm = 0 → PH f S3 (r + 1) 0) := fun q => (hP.out q).next hn
              go_wp2
              go_roundw
              case rel => exact ⟨r + 1, sm, S3, by omega, by omega, by go_num, rfl, hR, P4⟩
              case measure => simp [intOf]; omega
        · have er : r = n := by omega
          subst er
          have d2 : decide ((r : Int) < (r : Int)) = false := by simp
          have E4 : Hid (0 < k + 1 → sm = 0 → ∀ j, 1 ≤ j → j < r → EqF (S2.getD 0 rs0) (S2.getD j rs0)) := fun _ q => (hP.out q).done
          go_wp2
          go_roundw
          case rel => exact ⟨k + 1, sm, S2, by omega, by omega, by go_num, rfl, hR, E4⟩
          case measure => simp [intOf]; omega
    · have ek : k = tm := by omega
      subst ek
      have d1 : decide ((k : Int) < (k : Int)) = false := by simp
      go_wp2
      go_ret2
      exact ⟨sm, S1, rfl, hR.out, hE.out (by omega)⟩
end Go.Proofs.YtaelaldmibgibaaGreat

namespace Go.Proofs.YtaelaldmibgibaaGreat
open Go.RowKit Go.Sim

theorem row_form {w : World} {base n : Nat} {v : Value} {xs : List Value} (h : w.ownsRow base 9 1 v n xs) : ∃ c1 c3, v = .slice c1 n c3 := by
  rcases h.2 with ⟨e, q⟩ | ⟨g, cap, cur, e, _⟩
  · exact ⟨none, 0, by rw [e, q]⟩
  · exact ⟨_, _, e⟩
theorem row_at {w V : World} {base n : Nat} {c1 : Option Addr} {c3 : Nat} {ls : List ByteArray} (h : w.ownsRow base 9 1 (.slice c1 n c3) n (svs ls)) (hn : ls.length = n) {i : Nat} {p : ByteArray} (hi : ls[i]? = some p) : ∃ g, c1 = some ⟨g, 0, none⟩ ∧ (Below w.heap.size w V → V.cell? ⟨g, i, none⟩ = some (.string p)) := by
  have hlt := (List.getElem?_eq_some_iff.1 hi).1
  rcases h.2 with ⟨e, q⟩ | ⟨g, cap, cur, e, _⟩
  · omega
  · cases e
    refine ⟨g, rfl, fun hb => ?_⟩
    have h1 := ownsRow_keep h (fun g e => hb.block g (World.ownsRow.lt h g e).2)
    rw [World.ownsRow.cellAt h1 i (by omega)]
    simp [svs, hi]
set_option maxRecDepth 100000 in
set_option maxHeartbeats 2000000 in
theorem alike_yes {w0 w : World} {nb : Nat} {S : List RS} {K : List Nat} (h : Ne w0 w nb S K) (a b : Nat) {x y : RS} (hx : S[a]? = some x) (hy : S[b]? = some y) (rx : RisingE x.E) (ry : RisingE y.E) (hE : EqF x y) :
    Calls (twin Tryz.prog pl) 18 #[.pointer (some ⟨nb, 0, none⟩), .int .i64 a, .int .i64 b] w fun e w' => e = .returned (.bool true) ∧ Ne w0 w' nb S K := by
  have els := hE.ls rx ry
  have C1 : Hid (Calls (twin Tryz.prog pl) 39 #[.pointer (some ⟨nb, 0, none⟩), .int .i64 a] w fun e w' => ∃ c1 c3, e = .returned (.tuple #[.slice c1 (lsE x.E).length c3, .int .i64 0]) ∧ w'.ownsRow 0 9 1 (.slice c1 (lsE x.E).length c3) (lsE x.E).length (svs (lsE x.E)) ∧ Ne w0 w' nb S K) := by
    refine (eList h a hx).mono ?_
    rintro e w' ⟨v, rfl, h1, h2, _⟩
    obtain ⟨c1, c3, rfl⟩ := row_form h1
    exact ⟨c1, c3, rfl, ownsRow_base h1 (fun _ _ => Nat.zero_le _), h2⟩
  have C2 : Hid (∀ V, Ne w0 V nb S K → Calls (twin Tryz.prog pl) 39 #[.pointer (some ⟨nb, 0, none⟩), .int .i64 b] V fun e w' => ∃ c1 c3, e = .returned (.tuple #[.slice c1 (lsE x.E).length c3, .int .i64 0]) ∧ w'.ownsRow 0 9 1 (.slice c1 (lsE x.E).length c3) (lsE x.E).length (svs (lsE x.E)) ∧ Ne w0 w' nb S K ∧ Below V.heap.size V w') := fun V hV => by
    refine (eList hV b hy).mono ?_
    rintro e w' ⟨v, rfl, h1, h2, h3⟩
    rw [← els] at h1
    obtain ⟨c1, c3, rfl⟩ := row_form h1
    exact ⟨c1, c3, rfl, ownsRow_base h1 (fun _ _ => Nat.zero_le _), h2, h3⟩
  have hkx := h.kin.at hx
  have RD : Hid (∀ p, p ∈ lsE x.E → ∃ t : ByteArray, (∀ w2 V, Ne w0 w2 nb S K → Below w2.heap.size w2 V → Fixed V → Calls (twin Tryz.prog pl) 25 #[.pointer (some ⟨nb, 0, none⟩), .int .i64 a, .string p] V fun e w' => e = .returned (.tuple #[.string t, .int .i64 0]) ∧ Below w2.heap.size w2 w' ∧ Fixed w') ∧
      (∀ w2 V, Ne w0 w2 nb S K → Below w2.heap.size w2 V → Fixed V → Calls (twin Tryz.prog pl) 25 #[.pointer (some ⟨nb, 0, none⟩), .int .i64 b, .string p] V fun e w' => e = .returned (.tuple #[.string t, .int .i64 0]) ∧ Below w2.heap.size w2 w' ∧ Fixed w')) := fun p hp => by
    have hp0 := (mem_lsE rx p).1 hp
    obtain ⟨q1, q2⟩ := hE.read a b hp0
    have hpP : p ∈ PATHS := by
      unfold lsE at hp
      obtain ⟨z, hz, rfl⟩ := List.mem_map.1 hp
      exact hkx z (List.mem_filter.1 hz).1
    refine ⟨(rdR a x p).1, fun w2 V hN hb hF => ?_, fun w2 V hN hb hF => ?_⟩
    · refine (eRead (hN.more hb hF).1 a hx p hpP).mono ?_
      rintro e w' ⟨rfl, h1, h2⟩
      rw [q2]
      exact ⟨rfl, hb.trans (h2.mono hb.size), h1.fix⟩
    · refine (eRead (hN.more hb hF).1 b hy p hpP).mono ?_
      rintro e w' ⟨rfl, h1, h2⟩
      rw [← q1, q2]
      exact ⟨rfl, hb.trans (h2.mono hb.size), h1.fix⟩
  have LB : Hid ((lsE x.E).length ≤ 1000) := by
    have h1 : (lsE x.E).length ≤ x.E.length := by unfold lsE; rw [List.length_map]; exact thereE_len _
    obtain ⟨pb, L, hN, _⟩ := h.ex
    obtain ⟨_, _, hl⟩ := h.at hN hx
    unfold Hid
    omega
  clear h hx hy hE els hkx rx ry
  generalize hls : lsE x.E = ls at *
  clear hls
  go_enter q_func18, Tryz.ntmps18
  go_wp2_with (first
    | (go_at_call 39; refine (C2.out _ N1.out).mono ?_; rintro e w2 ⟨m1, m3, rfl, hO2, hN2, hB2⟩; have N2 := hide hN2; have O2 := hide hO2; have O1' := hide (ownsRow_keep O1.out (fun k e => hB2.block k (World.ownsRow.lt O1.out k e).2)); clear hN2 hO2 hB2)
    | (go_at_call 39; refine C1.out.mono ?_; rintro e w1 ⟨l1, l3, rfl, hO1, hN1⟩; have N1 := hide hN1; have O1 := hide hO1; clear hN1 hO1))
  clear C1 C2 N1 O1
  have hLB := LB.out
  have B0 : Hid (Below w2.heap.size w2 w2) := Below.refl _ _
  go_loopw [11] (fun iv wr => ∃ i : Nat, i ≤ ls.length ∧ iv = .int .i64 i ∧ Hid (Below w2.heap.size w2 wr) ∧ Hid (Fixed wr)) (fun iv _ => ls.length - (intOf iv).toNat)
  case atStart => exact ⟨0, Nat.zero_le _, rfl, B0, N2.out.fix⟩
  case round =>
    clear B0
    obtain ⟨i, hi, rfl, hB, hF⟩ := hrel
    by_cases hil : i < ls.length
    · have d1 : decide ((i : Int) < (ls.length : Int)) = true := by simp; omega
      obtain ⟨p, hp⟩ : ∃ p, ls[i]? = some p := ⟨_, List.getElem?_eq_getElem hil⟩
      obtain ⟨g1, rfl, hc1⟩ := row_at (V := wr) O1'.out rfl hp
      obtain ⟨g2, rfl, _⟩ := row_at (V := wr) O2.out rfl hp
      have k1 := hc1 hB.out
      have HC : Hid (∀ V, Below w2.heap.size w2 V → V.cell? ⟨g1, i, none⟩ = some (.string p) ∧ V.cell? ⟨g2, i, none⟩ = some (.string p)) := fun V hV => by
        obtain ⟨q1, e1, h1⟩ := row_at (V := V) O1'.out rfl hp
        obtain ⟨q2, e2, h2⟩ := row_at (V := V) O2.out rfl hp
        cases e1
        cases e2
        exact ⟨h1 hV, h2 hV⟩
      obtain ⟨t, r1, r2⟩ := RD.out p (List.mem_of_getElem? hp)
      have R1 := hide (r1 w2 wr N2.out hB.out hF.out)
      have R2 := hide (fun V => r2 w2 V N2.out)
      clear hc1 hp r1 r2
      go_wp2_with (first
        | (go_at_call 25; refine (R2.out _ B5.out F5.out).mono ?_; rintro e w6 ⟨rfl, hb6, hx6⟩; have B6 := hide hb6; have F6 := hide hx6; obtain ⟨j1, j2⟩ := HC.out _ hb6; clear hb6 hx6)
        | (go_at_call 25; refine R1.out.mono ?_; rintro e w5 ⟨rfl, hb5, hx5⟩; have B5 := hide hb5; have F5 := hide hx5; obtain ⟨k2, _⟩ := HC.out _ hb5; clear hb5 hx5))
      go_quiet (fail)
      go_wp2
      go_roundw
      case rel => exact ⟨i + 1, by omega, by go_num, below_drewN B6.out _, F6.out⟩
      case measure => simp [intOf]; omega
    · have ei : i = ls.length := by omega
      subst ei
      have d1 : decide ((ls.length : Int) < (ls.length : Int)) = false := by simp
      go_wp2
      go_ret
      exact ⟨rfl, (N2.out.more hB.out hF.out).1⟩
end Go.Proofs.YtaelaldmibgibaaGreat

namespace Go.Proofs.YtaelaldmibgibaaGreat
open Go.RowKit Go.Sim

theorem begS_wf (n : Nat) : Wf 1 (begS n) := by
  have z0 : Wf1 0 zero0 := ⟨List.Pairwise.nil, fun x hx => by simp [zero0] at hx, fun i => Int.le_refl 0, fun i => Int.le_refl 0⟩
  have b0 : Wf1 1 beg0 := (wr_wf z0 (by decide) (by decide) (by decide) in_first _).2
  have b1 : Wf1 1 beg1 := (pl_wf (z0.mono (by decide)) b0 (by decide)).2.1
  have hn : Wf 1 (newS n) := fun s hs => by
    obtain ⟨_, rfl⟩ := List.mem_replicate.1 hs
    exact z0.mono (by decide)
  exact (hn.set 0 b0).set 1 b1
theorem begS_len (n : Nat) : (begS n).length = n := by simp [begS, newS]
end Go.Proofs.YtaelaldmibgibaaGreat

namespace Go.Proofs.YtaelaldmibgibaaGreat
open Go.RowKit Go.Sim

theorem q_func4 : (twin Tryz.prog pl).funcs[4]? = some Tryz.f4 := tw_func Tryz.func4 (by decide) (by kernel_rfl)
theorem newS_getD (n i : Nat) : (newS n).getD i rs0 = zero0 := by
  unfold newS
  rw [List.getD_eq_getElem?_getD, List.getElem?_replicate]
  split <;> rfl
theorem newS_wf (n : Nat) : Wf 0 (newS n) := fun s hs => by
  obtain ⟨_, rfl⟩ := List.mem_replicate.1 hs
  exact ⟨List.Pairwise.nil, fun x hx => by simp at hx, fun i => Int.le_refl 0, fun i => Int.le_refl 0⟩
theorem newS_iv (n : Nat) : IvS (newS n) := by
  have e : ∀ i p, flS (newS n) i p = recN := fun i p => by unfold flS; rw [newS_getD]; rfl
  refine ⟨fun i _ p h => ?_, fun i _ p j _ => ?_, fun j _ => ?_, fun i _ j _ p h => ?_⟩
  · rw [e] at h; simp [recN] at h
  · rw [e]; unfold CS; rw [newS_getD]; exact Int.le_refl 0
  · unfold CS; rw [newS_getD]; exact Int.le_refl 0
  · rw [e] at h; simp [recN] at h
theorem begS_iv {n : Nat} (hn : 2 ≤ n) (h6 : n ≤ 6) : IvS (begS n) := by
  have hl : (newS n).length = n := by simp [newS]
  have h1 := ivs_write (by omega) (newS_iv n) (newS_wf n) (r := 0) (by omega) pFirst pText
  rw [newS_getD] at h1
  have hw : Wf 1 ((newS n).set 0 beg0) := by
    have z0 : Wf1 0 zero0 := ⟨List.Pairwise.nil, fun x hx => by simp [zero0] at hx, fun i => Int.le_refl 0, fun i => Int.le_refl 0⟩
    exact ((newS_wf n).mono (by decide)).set 0 (wr_wf z0 (by decide) (by decide) (by decide) in_first _).2
  have h2 := ivs_pull (by rw [List.length_set]; omega) h1 (by decide) hw (r := 1) (f := 0) (by rw [List.length_set]; omega) (by rw [List.length_set]; omega)
  rw [getD_set_ne (by decide), newS_getD, getD_set_self (by omega)] at h2
  exact h2
theorem runS_iv {n : Nat} {S : List RS} (hn : 2 ≤ n) (h6 : n ≤ 6) (hS : S.length = n) {B : Int} (h0 : 0 ≤ B) (h : Wf B S) (hI : IvS S) (os : Nat → StepO) (k : Nat) (hk : B + k ≤ 1000000000) : IvS (runS n S os k) := by
  induction k with
  | zero => exact hI
  | succ k ih =>
    rw [runS_succ]
    exact ivs_step hn h6 (by rw [runS_len]; exact hS) (B := B + k) (by omega) (runS_wf hn h6 hS h0 h os k (by omega)) (ih (by omega)) (os k)
set_option maxRecDepth 100000 in
set_option maxHeartbeats 2000000 in
theorem meets_any (size times : Int) (hz : inI size) (ht : inI times) (a : Option Addr) (len cap : Nat) (hlen : len ≤ 4611686018427387904) (os : Nat → StepO) (w : World) (hx : Fixed w) (hs : ∀ i, i < len → ∃ ad, a = some ad ∧ StepAt w ad i (os i)) :
    Calls (twin Tryz.prog pl) 4 #[.int .i64 size, .slice a len cap, .int .i64 times] w fun e w' => e = .returned (.bool true) ∧ Below w.heap.size w w' := by
  have hc := pickR_lt size 4 (by decide)
  have PZ := hide (qpick size 4 hz (by decide))
  obtain ⟨n, hn⟩ : ∃ n : Nat, (2 : Int) + pickR size 4 = n := ⟨(2 + pickR size 4).toNat, by omega⟩
  have hn2 : 2 ≤ n := by omega
  have hn6 : n ≤ 6 := by omega
  generalize pickR size 4 = c at *
  have hc2 := pickR_lt times 4 (by decide)
  have PT := hide (qpick times 4 ht (by decide))
  obtain ⟨tm, htm⟩ : ∃ tm : Nat, (1 : Int) + pickR times 4 = tm := ⟨(1 + pickR times 4).toNat, by omega⟩
  have ht1 : 1 ≤ tm := by omega
  have ht4 : tm ≤ 4 := by omega
  generalize pickR times 4 = c2 at *
  have B0 := hide (begun_any n hn2 hn6 w hx)
  have PL : Hid (∀ V, Ne w V w.heap.size (begS n) [] → Calls (twin Tryz.prog pl) 16 #[.pointer (some ⟨w.heap.size, 0, none⟩), .int .i64 n, .slice a len cap] V fun e w' => e = .returned (.bool true) ∧ ∃ S, Rn w w' w.heap.size n 200000 [] S) := fun V hV => by
    refine (play_any hV hn2 hn6 (begS_len n) (B := 1) (by decide) (by decide) (begS_wf n) a len cap hlen os hs).mono ?_
    rintro e w' ⟨rfl, h1, _⟩
    exact ⟨rfl, _, h1, by rw [runS_len, begS_len], (runS_wf hn2 hn6 (begS_len n) (by decide) (begS_wf n) os _ (by omega)).mono (by omega), runS_iv hn2 hn6 (begS_len n) (by decide) (begS_wf n) (begS_iv hn2 hn6) os _ (by omega)⟩
  have RO : Hid (∀ V S, Rn w V w.heap.size n 200000 [] S → _) := fun V S hR => rounds_any hR hn2 hn6 (by decide) tm ht1 ht4
  clear hs hx
  go_enter q_func4, Tryz.ntmps4
  go_wp2_with (first
    | (go_at_call_of 14 (Value.int .i64 size); refine (PZ.out _).mono ?_; rintro e wz ⟨rfl, hwz⟩; obtain rfl := hwz.symm)
    | (go_at_call_of 14 (Value.int .i64 times); refine (PT.out _).mono ?_; rintro e wz ⟨rfl, hwz⟩; obtain rfl := hwz.symm)
    | (go_at_call 15; refine B0.out.mono ?_; rintro e w1 ⟨rfl, hN1⟩; have N1 := hide hN1; clear hN1)
    | (go_at_call 16; refine (PL.out _ N1.out).mono ?_; rintro e w2 ⟨rfl, S2, hN2⟩; have N2 := hide hN2; clear hN2)
    | (go_at_call 17; refine (RO.out _ _ N2.out).mono ?_; rintro e w3 ⟨sm, S3, rfl, hN3, hE3⟩; have N3 := hide hN3; have E3 := hide hE3; clear hN3 hE3; have hsm0 := Nat.eq_zero_or_pos sm; rcases hsm0 with rfl | hpos))
  · have EQ := hide (E3.out (by trivial))
    have AL : Hid (∀ (r : Nat) V, 1 ≤ r → r < n → Ne w V w.heap.size S3 [] → Calls (twin Tryz.prog pl) 18 #[.pointer (some ⟨w.heap.size, 0, none⟩), .int .i64 0, .int .i64 r] V fun e w' => e = .returned (.bool true) ∧ Ne w w' w.heap.size S3 []) := fun r V h1 h2 hV => by
      have hl := N3.out.len
      exact alike_yes hV 0 r (getD_at (by omega)) (getD_at (by omega)) (N3.out.wf.at (getD_at (S := S3) (r := 0) (by omega))).ris (N3.out.wf.at (getD_at (S := S3) (r := r) (by omega))).ris (EQ.out r h1 h2)
    have N4 := hide N3.out.ne
    clear B0 PL RO N1 N2 N3 E3 EQ PZ PT
    go_wp2_with fail
    go_loopw [12] (fun rv wr => ∃ r : Nat, 1 ≤ r ∧ r ≤ n ∧ rv = .int .i64 r ∧ Hid (Ne w wr w.heap.size S3 [])) (fun rv _ => n - (intOf rv).toNat)
    case atStart => exact ⟨1, by omega, by omega, rfl, N4⟩
    case round =>
      clear N4
      obtain ⟨r, hr1, hrn, rfl, hN⟩ := hrel
      by_cases hlt : r < n
      · have d1 : decide ((r : Int) < (n : Int)) = true := by simp; omega
        go_wp2_with (go_at_call 18; refine (AL.out r _ hr1 hlt hN.out).mono ?_; rintro e w5 ⟨rfl, hN5⟩; have N5 := hide hN5; clear hN5)
        go_roundw
        case rel => exact ⟨r + 1, by omega, by omega, by go_num, N5⟩
        case measure => simp [intOf]; omega
      · have er : r = n := by omega
        subst er
        have d1 : decide ((r : Int) < (r : Int)) = false := by simp
        go_wp2
        go_ret
        exact ⟨rfl, hN.out.bel⟩
  · have d0 : decide ((0 : Int) < (sm : Int)) = true := by simp; omega
    go_wp2
    go_ret
    exact ⟨rfl, N3.out.ne.bel⟩
end Go.Proofs.YtaelaldmibgibaaGreat
