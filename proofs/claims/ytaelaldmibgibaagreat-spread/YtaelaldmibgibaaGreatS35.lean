/- Spread over the twin: the walk. -/
import Derived.Test.YtaelaldmibgibaaGreatS34

set_option linter.unusedVariables false
set_option linter.unusedSimpArgs false
set_option linter.unusedSectionVars false

namespace Go.Proofs.YtaelaldmibgibaaGreat
open Go.RowKit Go.Sim

theorem cell_new (wr : World) (cs : Array Value) (t : TypeId) (k : Nat) : (wr.alloc (.cells cs t)).cell? ⟨wr.heap.size, k, none⟩ = cs[k]? := by
  unfold World.cell?
  rw [heap_alloc_new]
  rfl
theorem Sx.up {w0 w : World} {nb n tb bb : Nat} {B B' : Int} {S : List RS} {ts : List ByteArray} {bs : List Bool} (h : Sx w0 w nb n tb bb B S ts bs) (hB : B ≤ B') : Sx w0 w nb n tb bb B' S ts bs :=
  ⟨⟨h.rn.ne, h.rn.len, h.rn.wf.mono hB, h.rn.iv⟩, h.sp, h.tk, h.bk, h.tl, h.bl, h.ne, h.tg, h.te⟩
set_option maxRecDepth 100000 in
set_option maxHeartbeats 4000000 in
theorem spread_any (size : Int) (hz : inI size) (a : Option Addr) (len cap : Nat) (os : Nat → StepO) (w : World) (hx : Fixed w) (hs : ∀ i, i < len → ∃ ad, a = some ad ∧ StepAt w ad i (os i)) :
    Calls (twin Tryz.prog pl) 5 #[.int .i64 size, .slice a len cap] w fun e w' => e = .returned (.bool true) ∧ Below w.heap.size w w' := by
  have hc := pickR_lt size 4 (by decide)
  have PZ := hide (qpick size 4 hz (by decide))
  obtain ⟨n, hn⟩ : ∃ n : Nat, (2 : Int) + pickR size 4 = n := ⟨(2 + pickR size 4).toNat, by omega⟩
  have hn2 : 2 ≤ n := by omega
  have hn6 : n ≤ 6 := by omega
  generalize pickR size 4 = c at *
  have B0 := hide (begun_any n hn2 hn6 w hx)
  have HS := hide hs
  have MK1 := mk_strings
  have MK2 := mk_bools
  clear hs hx
  go_enter q_func5, Tryz.ntmps5
  go_wp2_with (first
    | (go_at_call_of 14 (Value.int .i64 size); refine (PZ.out _).mono ?_; rintro e wz ⟨rfl, hwz⟩; obtain rfl := hwz.symm)
    | (go_at_call 15; refine B0.out.mono ?_; rintro e w1 ⟨rfl, hN1⟩; have N1 := hide hN1; clear hN1))
  have X0 := hide (Sx.start N1.out hn2 hn6)
  clear N1 B0 PZ MK1 MK2
  go_loopw [9] (fun iv wr => ∃ (i : Nat) (S : List RS) (ts : List ByteArray) (bs : List Bool), i ≤ len ∧ i ≤ 100000 ∧ iv = .int .i64 i ∧ Hid (Sx w wr w.heap.size n w1.heap.size (w1.heap.size + 1) (1 + i) S ts bs)) (fun iv _ => len - (intOf iv).toNat)
  case atStart => exact ⟨0, _, _, _, Nat.zero_le _, Nat.zero_le _, rfl, X0⟩
  case round =>
    clear X0
    obtain ⟨i, S, ts, bs, hi, hi', rfl, hX⟩ := hrel
    generalize w1.heap.size = tb at *
    by_cases hlt : i < len
    · by_cases hlt' : i < 100000
      · obtain ⟨ad, rfl, hO⟩ := HS.out i hlt
        obtain ⟨_, c0, c1, c2, c3, c4, r0, r1, r2, r3⟩ := hO.below hX.out.rn.ne.bel
        rw [add_next _ _ _ (by decide)] at c1 c2 c3 c4
        have d1 : decide ((i : Int) < (len : Int)) = true := by simp; omega
        have d2 : decide ((i : Int) < (100000 : Int)) = true := by simp; omega
        generalize os i = o at *
        clear hO
        have hr := o.R_lt (n := n) hn2
        have hf := o.F_ok (n := n) hn2
        have PR : Hid (∀ V, Calls (twin Tryz.prog pl) 14 #[.int .i64 o.r, .int .i64 n] V fun e w' => e = .returned (.int .i64 (o.R n)) ∧ w' = V) := fun V => by
          have := qpick o.r n r1 (by omega) V
          have e : ((o.R n : Nat) : Int) = pickR o.r n := by unfold StepO.R; have := pickR_lt o.r n (by omega); omega
          rw [e]; exact this
        have PF : Hid (∀ V, Calls (twin Tryz.prog pl) 23 #[.int .i64 (o.R n), .int .i64 o.f, .int .i64 n] V fun e w' => e = .returned (.int .i64 (o.F n)) ∧ w' = V) := fun V => by
          have := qother (o.R n) n o.f hr ⟨hn2, hn6⟩ r2 V
          have e : ((o.F n : Nat) : Int) = otherR (o.R n) o.f n := by unfold StepO.F; have := otherR_ok (o.R n) n o.f hr hn2; omega
          rw [e]; exact this
        have hp8 := pickR_lt o.path 8 (by decide)
        obtain ⟨kp, hkp⟩ : ∃ kp : Nat, pickR o.path 8 = kp := ⟨(pickR o.path 8).toNat, by omega⟩
        have hk8 : kp < 8 := by omega
        have PP : Hid (∀ V, Calls (twin Tryz.prog pl) 14 #[.int .i64 o.path, .int .i64 8] V fun e w' => e = .returned (.int .i64 kp) ∧ w' = V) := fun V => by
          have := qpick o.path 8 r3 (by decide) V
          rw [← hkp]; exact this
        have PT : Hid (∀ V, Calls (twin Tryz.prog pl) 19 #[.int .i64 kp] V fun e w' => e = .returned (.string (pDir kp)) ∧ w' = V) := fun V => qpath _ hk8 V
        have hw6 := pickR_lt o.what 6 (by decide)
        obtain ⟨kw, hkw⟩ : ∃ kw : Nat, pickR o.what 6 = kw := ⟨(pickR o.what 6).toNat, by omega⟩
        have hk6 : kw < 6 := by omega
        have PW : Hid (∀ V, Calls (twin Tryz.prog pl) 14 #[.int .i64 o.what, .int .i64 6] V fun e w' => e = .returned (.int .i64 kw) ∧ w' = V) := fun V => by
          have := qpick o.what 6 r0 (by decide) V
          rw [← hkw]; exact this
        have hn0 : ((n : Int) == 0) = false := by simp; omega
        obtain ⟨ro, hro⟩ : ∃ ro : Nat, kp % n = ro := ⟨_, rfl⟩
        have hrl : ro < n := by rw [← hro]; exact Nat.mod_lt _ (by omega)
        have e3 : (kp : Int).tmod n = (ro : Int) := by rw [Int.tmod_eq_emod_of_nonneg (by omega), ← hro]; exact (Int.natCast_emod _ _).symm
        have e4 : IntKind.wrap .i64 (ro : Int) = ro := by rw [IntKind.wrap_i64]; omega
        have SW : Hid (∀ V, Below wr.heap.size wr V → Fixed V → wr.heap.size < V.heap.size → Calls (twin Tryz.prog pl) 10 #[.pointer (some ⟨w.heap.size, 0, none⟩), .int .i64 ro, .string (pDir kp), .string (cutT o.text)] V fun e w' => e = .returned (.int .i64 0) ∧ ∃ S', Sy w w' w.heap.size n tb (tb + 1) (1 + i + 1) S' ts bs (ts.set kp (cutT o.text)) (bs.set kp true) ∧ ∀ o, w'.cell? ⟨wr.heap.size, o, none⟩ = V.cell? ⟨wr.heap.size, o, none⟩) := fun V q1 q2 q3 => by
          rw [← hro]; exact sx_write hX.out hn2 hn6 (by omega) (by omega) q1 q2 q3 hk8 o.text
        have XA : Hid (∀ cs t, Sx w (wr.alloc (.cells cs t)) w.heap.size n tb (tb + 1) (1 + i) S ts bs) := fun cs t => hX.out.more ((Below.refl _ _).alloc (Nat.le_refl _) _) (Fixed.alloc hX.out.rn.ne.fix _ _)
        obtain ⟨bv, hbv⟩ : ∃ bv, bs.getD kp false = bv := ⟨_, rfl⟩
        have SR : Hid (∀ V, Sx w V w.heap.size n tb (tb + 1) (1 + i) S ts bs → Calls (twin Tryz.prog pl) 21 #[.pointer (some ⟨w.heap.size, 0, none⟩), .int .i64 ro, .string (pDir kp)] V fun e w' => ∃ z : Int, e = .returned (.int .i64 z) ∧ (z = 0 ↔ bv = true) ∧ ∃ S', Sy w w' w.heap.size n tb (tb + 1) (1 + i + 1) S' ts bs ts (bs.set kp false)) := fun V hV => by
          rw [← hro, ← hbv]; exact sx_remove hV hn2 hn6 (by omega) (by omega) hk8
        have SP : Hid (∀ V, Sx w V w.heap.size n tb (tb + 1) (1 + i) S ts bs → _) := fun V hV => sx_pull hV hn6 (by omega) hr hf.1 (by omega)
        have CU := hide (qcut o.text)
        have FX := hide hX.out.rn.ne.fix
        have hcell := hX.out.cell hk8
        generalize o.R n = rr at *
        generalize o.F n = ff at *
        clear hkp hkw hp8 hw6 hro r0 r1 r2 r3
        match kw, hk6 with
        | 0, _ =>
          go_wp2_with (first
            | (go_at_call_of 14 (Value.int .i64 o.r); refine (PR.out _).mono ?_; rintro e wz ⟨rfl, hwz⟩; obtain rfl := hwz.symm)
            | (go_at_call_of 14 (Value.int .i64 o.path); refine (PP.out _).mono ?_; rintro e wz ⟨rfl, hwz⟩; obtain rfl := hwz.symm)
            | (go_at_call_of 14 (Value.int .i64 o.what); refine (PW.out _).mono ?_; rintro e wz ⟨rfl, hwz⟩; obtain rfl := hwz.symm)
            | (go_at_call 23; refine (PF.out _).mono ?_; rintro e wz ⟨rfl, hwz⟩; obtain rfl := hwz.symm)
            | (go_at_call 19; refine (PT.out _).mono ?_; rintro e wz ⟨rfl, hwz⟩; obtain rfl := hwz.symm)
            | (go_at_call 20; refine (CU.out _).mono ?_; rintro e wz ⟨rfl, hwz⟩; obtain rfl := hwz.symm))
          go_region_law (first
            | (go_simp; go_at_call 19; refine (PT.out _).mono ?_; rintro e wz ⟨rfl, hwz⟩; obtain rfl := hwz.symm; dsimp only)
            | (go_simp; go_at_call 20; refine (CU.out _).mono ?_; rintro e wz ⟨rfl, hwz⟩; obtain rfl := hwz.symm; dsimp only)
            | (go_simp; go_at_call 10; refine (SW.out _ (by repeat' (first | exact Below.refl _ _ | refine Below.drew ?_ | refine Below.alloc ?_ (Nat.le_refl _) _)) (by exact Fixed.alloc FX.out _ _) (by simp)).mono ?_; rintro e w5 ⟨rfl, S5, hY5, hc5⟩; have Y5 := hide hY5; have s5 : w5.cell? ⟨wr.heap.size, 4, none⟩ = some (.string o.text) := (hc5 4).trans (by exact cell_new _ _ _ _); clear hY5 hc5; dsimp only))
          all_goals
            obtain ⟨t1, t2, t3, t4⟩ := Y5.out.sl.cell hk8
            obtain ⟨v1, v2, v3, v4⟩ := (Y5.out.sl.setT kp (cutT o.text)).cell hk8
            have J5 : Hid (Sx w ((w5.setCell ⟨tb, kp, none⟩ (.string (cutT o.text))).setCell ⟨tb + 1, kp, none⟩ (.bool true)) w.heap.size n tb (tb + 1) (1 + (i + 1 : Nat)) S5 (ts.set kp (cutT o.text)) (bs.set kp true)) := by
              have := ((Y5.out.sl.setT kp (cutT o.text)).setB kp true).sx Y5.out.sp Y5.out.te
              rw [show (1 : Int) + ((i + 1 : Nat) : Int) = 1 + i + 1 by omega]
              exact this
            clear Y5
            go_wp2_with (first
            | (go_at_call_of 14 (Value.int .i64 o.r); refine (PR.out _).mono ?_; rintro e wz ⟨rfl, hwz⟩; obtain rfl := hwz.symm)
            | (go_at_call_of 14 (Value.int .i64 o.path); refine (PP.out _).mono ?_; rintro e wz ⟨rfl, hwz⟩; obtain rfl := hwz.symm)
            | (go_at_call_of 14 (Value.int .i64 o.what); refine (PW.out _).mono ?_; rintro e wz ⟨rfl, hwz⟩; obtain rfl := hwz.symm)
            | (go_at_call 23; refine (PF.out _).mono ?_; rintro e wz ⟨rfl, hwz⟩; obtain rfl := hwz.symm)
            | (go_at_call 19; refine (PT.out _).mono ?_; rintro e wz ⟨rfl, hwz⟩; obtain rfl := hwz.symm)
            | (go_at_call 20; refine (CU.out _).mono ?_; rintro e wz ⟨rfl, hwz⟩; obtain rfl := hwz.symm))
            go_roundw
            case rel => exact ⟨i + 1, S5, _, _, by omega, by omega, by go_num, J5⟩
            case measure => simp [intOf]; omega
        | 1, _ =>
          go_wp2_with (first
            | (go_at_call_of 14 (Value.int .i64 o.r); refine (PR.out _).mono ?_; rintro e wz ⟨rfl, hwz⟩; obtain rfl := hwz.symm)
            | (go_at_call_of 14 (Value.int .i64 o.path); refine (PP.out _).mono ?_; rintro e wz ⟨rfl, hwz⟩; obtain rfl := hwz.symm)
            | (go_at_call_of 14 (Value.int .i64 o.what); refine (PW.out _).mono ?_; rintro e wz ⟨rfl, hwz⟩; obtain rfl := hwz.symm)
            | (go_at_call 23; refine (PF.out _).mono ?_; rintro e wz ⟨rfl, hwz⟩; obtain rfl := hwz.symm)
            | (go_at_call 19; refine (PT.out _).mono ?_; rintro e wz ⟨rfl, hwz⟩; obtain rfl := hwz.symm)
            | (go_at_call 20; refine (CU.out _).mono ?_; rintro e wz ⟨rfl, hwz⟩; obtain rfl := hwz.symm))
          go_region_law (first
            | (go_simp; go_at_call 19; refine (PT.out _).mono ?_; rintro e wz ⟨rfl, hwz⟩; obtain rfl := hwz.symm; dsimp only)
            | (go_simp; go_at_call 20; refine (CU.out _).mono ?_; rintro e wz ⟨rfl, hwz⟩; obtain rfl := hwz.symm; dsimp only)
            | (go_simp; go_at_call 10; refine (SW.out _ (by repeat' (first | exact Below.refl _ _ | refine Below.drew ?_ | refine Below.alloc ?_ (Nat.le_refl _) _)) (by exact Fixed.alloc FX.out _ _) (by simp)).mono ?_; rintro e w5 ⟨rfl, S5, hY5, hc5⟩; have Y5 := hide hY5; have s5 : w5.cell? ⟨wr.heap.size, 4, none⟩ = some (.string o.text) := (hc5 4).trans (by exact cell_new _ _ _ _); clear hY5 hc5; dsimp only))
          all_goals
            obtain ⟨t1, t2, t3, t4⟩ := Y5.out.sl.cell hk8
            obtain ⟨v1, v2, v3, v4⟩ := (Y5.out.sl.setT kp (cutT o.text)).cell hk8
            have J5 : Hid (Sx w ((w5.setCell ⟨tb, kp, none⟩ (.string (cutT o.text))).setCell ⟨tb + 1, kp, none⟩ (.bool true)) w.heap.size n tb (tb + 1) (1 + (i + 1 : Nat)) S5 (ts.set kp (cutT o.text)) (bs.set kp true)) := by
              have := ((Y5.out.sl.setT kp (cutT o.text)).setB kp true).sx Y5.out.sp Y5.out.te
              rw [show (1 : Int) + ((i + 1 : Nat) : Int) = 1 + i + 1 by omega]
              exact this
            clear Y5
            go_wp2_with (first
            | (go_at_call_of 14 (Value.int .i64 o.r); refine (PR.out _).mono ?_; rintro e wz ⟨rfl, hwz⟩; obtain rfl := hwz.symm)
            | (go_at_call_of 14 (Value.int .i64 o.path); refine (PP.out _).mono ?_; rintro e wz ⟨rfl, hwz⟩; obtain rfl := hwz.symm)
            | (go_at_call_of 14 (Value.int .i64 o.what); refine (PW.out _).mono ?_; rintro e wz ⟨rfl, hwz⟩; obtain rfl := hwz.symm)
            | (go_at_call 23; refine (PF.out _).mono ?_; rintro e wz ⟨rfl, hwz⟩; obtain rfl := hwz.symm)
            | (go_at_call 19; refine (PT.out _).mono ?_; rintro e wz ⟨rfl, hwz⟩; obtain rfl := hwz.symm)
            | (go_at_call 20; refine (CU.out _).mono ?_; rintro e wz ⟨rfl, hwz⟩; obtain rfl := hwz.symm))
            go_roundw
            case rel => exact ⟨i + 1, S5, _, _, by omega, by omega, by go_num, J5⟩
            case measure => simp [intOf]; omega
        | 2, _ =>
          go_wp2_with (first
            | (go_at_call_of 14 (Value.int .i64 o.r); refine (PR.out _).mono ?_; rintro e wz ⟨rfl, hwz⟩; obtain rfl := hwz.symm)
            | (go_at_call_of 14 (Value.int .i64 o.path); refine (PP.out _).mono ?_; rintro e wz ⟨rfl, hwz⟩; obtain rfl := hwz.symm)
            | (go_at_call_of 14 (Value.int .i64 o.what); refine (PW.out _).mono ?_; rintro e wz ⟨rfl, hwz⟩; obtain rfl := hwz.symm)
            | (go_at_call 23; refine (PF.out _).mono ?_; rintro e wz ⟨rfl, hwz⟩; obtain rfl := hwz.symm)
            | (go_at_call 19; refine (PT.out _).mono ?_; rintro e wz ⟨rfl, hwz⟩; obtain rfl := hwz.symm)
            | (go_at_call 20; refine (CU.out _).mono ?_; rintro e wz ⟨rfl, hwz⟩; obtain rfl := hwz.symm))
          go_region_law (first
            | (go_simp; go_at_call 19; refine (PT.out _).mono ?_; rintro e wz ⟨rfl, hwz⟩; obtain rfl := hwz.symm; dsimp only)
            | (go_simp; go_at_call 20; refine (CU.out _).mono ?_; rintro e wz ⟨rfl, hwz⟩; obtain rfl := hwz.symm; dsimp only)
            | (go_simp; go_at_call 10; refine (SW.out _ (by repeat' (first | exact Below.refl _ _ | refine Below.drew ?_ | refine Below.alloc ?_ (Nat.le_refl _) _)) (by exact Fixed.alloc FX.out _ _) (by simp)).mono ?_; rintro e w5 ⟨rfl, S5, hY5, hc5⟩; have Y5 := hide hY5; have s5 : w5.cell? ⟨wr.heap.size, 4, none⟩ = some (.string o.text) := (hc5 4).trans (by exact cell_new _ _ _ _); clear hY5 hc5; dsimp only))
          all_goals
            obtain ⟨t1, t2, t3, t4⟩ := Y5.out.sl.cell hk8
            obtain ⟨v1, v2, v3, v4⟩ := (Y5.out.sl.setT kp (cutT o.text)).cell hk8
            have J5 : Hid (Sx w ((w5.setCell ⟨tb, kp, none⟩ (.string (cutT o.text))).setCell ⟨tb + 1, kp, none⟩ (.bool true)) w.heap.size n tb (tb + 1) (1 + (i + 1 : Nat)) S5 (ts.set kp (cutT o.text)) (bs.set kp true)) := by
              have := ((Y5.out.sl.setT kp (cutT o.text)).setB kp true).sx Y5.out.sp Y5.out.te
              rw [show (1 : Int) + ((i + 1 : Nat) : Int) = 1 + i + 1 by omega]
              exact this
            clear Y5
            go_wp2_with (first
            | (go_at_call_of 14 (Value.int .i64 o.r); refine (PR.out _).mono ?_; rintro e wz ⟨rfl, hwz⟩; obtain rfl := hwz.symm)
            | (go_at_call_of 14 (Value.int .i64 o.path); refine (PP.out _).mono ?_; rintro e wz ⟨rfl, hwz⟩; obtain rfl := hwz.symm)
            | (go_at_call_of 14 (Value.int .i64 o.what); refine (PW.out _).mono ?_; rintro e wz ⟨rfl, hwz⟩; obtain rfl := hwz.symm)
            | (go_at_call 23; refine (PF.out _).mono ?_; rintro e wz ⟨rfl, hwz⟩; obtain rfl := hwz.symm)
            | (go_at_call 19; refine (PT.out _).mono ?_; rintro e wz ⟨rfl, hwz⟩; obtain rfl := hwz.symm)
            | (go_at_call 20; refine (CU.out _).mono ?_; rintro e wz ⟨rfl, hwz⟩; obtain rfl := hwz.symm))
            go_roundw
            case rel => exact ⟨i + 1, S5, _, _, by omega, by omega, by go_num, J5⟩
            case measure => simp [intOf]; omega
        | 3, _ =>
          go_wp2_with (first
            | (go_at_call_of 14 (Value.int .i64 o.r); refine (PR.out _).mono ?_; rintro e wz ⟨rfl, hwz⟩; obtain rfl := hwz.symm)
            | (go_at_call_of 14 (Value.int .i64 o.path); refine (PP.out _).mono ?_; rintro e wz ⟨rfl, hwz⟩; obtain rfl := hwz.symm)
            | (go_at_call_of 14 (Value.int .i64 o.what); refine (PW.out _).mono ?_; rintro e wz ⟨rfl, hwz⟩; obtain rfl := hwz.symm)
            | (go_at_call 23; refine (PF.out _).mono ?_; rintro e wz ⟨rfl, hwz⟩; obtain rfl := hwz.symm)
            | (go_at_call 19; refine (PT.out _).mono ?_; rintro e wz ⟨rfl, hwz⟩; obtain rfl := hwz.symm)
            | (go_at_call 20; refine (CU.out _).mono ?_; rintro e wz ⟨rfl, hwz⟩; obtain rfl := hwz.symm)
            | (go_at_call 21; refine (SR.out _ (XA.out _ _)).mono ?_; rintro e w5 ⟨z5, rfl, hz5, S5, hY5⟩; have Y5 := hide hY5; have tz : (z5 == 0) = bv := (by cases bv <;> simp at hz5 ⊢ <;> exact hz5); clear hY5 hz5; obtain ⟨t1, t2, t3, t4⟩ := Y5.out.sl.cell hk8; rw [hbv] at t2))
          have J5 : Hid (Sx w (w5.setCell ⟨tb + 1, kp, none⟩ (.bool false)) w.heap.size n tb (tb + 1) (1 + (i + 1 : Nat)) S5 ts (bs.set kp false)) := by
            have := (Y5.out.sl.setB kp false).sx Y5.out.sp Y5.out.te
            rw [show (1 : Int) + ((i + 1 : Nat) : Int) = 1 + i + 1 by omega]
            exact this
          go_roundw
          case rel => exact ⟨i + 1, S5, _, _, by omega, by omega, by go_num, J5⟩
          case measure => simp [intOf]; omega
        | 4, _ =>
          go_wp2_with (first
            | (go_at_call_of 14 (Value.int .i64 o.r); refine (PR.out _).mono ?_; rintro e wz ⟨rfl, hwz⟩; obtain rfl := hwz.symm)
            | (go_at_call_of 14 (Value.int .i64 o.path); refine (PP.out _).mono ?_; rintro e wz ⟨rfl, hwz⟩; obtain rfl := hwz.symm)
            | (go_at_call_of 14 (Value.int .i64 o.what); refine (PW.out _).mono ?_; rintro e wz ⟨rfl, hwz⟩; obtain rfl := hwz.symm)
            | (go_at_call 23; refine (PF.out _).mono ?_; rintro e wz ⟨rfl, hwz⟩; obtain rfl := hwz.symm)
            | (go_at_call 19; refine (PT.out _).mono ?_; rintro e wz ⟨rfl, hwz⟩; obtain rfl := hwz.symm)
            | (go_at_call 20; refine (CU.out _).mono ?_; rintro e wz ⟨rfl, hwz⟩; obtain rfl := hwz.symm)
            | (go_at_call 22; refine (SP.out _ (XA.out _ _)).mono ?_; rintro e w5 ⟨c1, m5, c3, rfl, ⟨S5, hX5⟩, hC5⟩; have X5 := hide (hX5.up (B' := 1 + (i + 1 : Nat)) (by omega)); have C5 := hide hC5; clear hX5 hC5)
            | (go_at_call 24; refine C5.out.mono ?_; rintro e wz ⟨rfl, hwz⟩; obtain rfl := hwz.symm))
          go_roundw
          case rel => exact ⟨i + 1, S5, _, _, by omega, by omega, by go_num, X5⟩
          case measure => simp [intOf]; omega
        | 5, _ =>
          go_wp2_with (first
            | (go_at_call_of 14 (Value.int .i64 o.r); refine (PR.out _).mono ?_; rintro e wz ⟨rfl, hwz⟩; obtain rfl := hwz.symm)
            | (go_at_call_of 14 (Value.int .i64 o.path); refine (PP.out _).mono ?_; rintro e wz ⟨rfl, hwz⟩; obtain rfl := hwz.symm)
            | (go_at_call_of 14 (Value.int .i64 o.what); refine (PW.out _).mono ?_; rintro e wz ⟨rfl, hwz⟩; obtain rfl := hwz.symm)
            | (go_at_call 23; refine (PF.out _).mono ?_; rintro e wz ⟨rfl, hwz⟩; obtain rfl := hwz.symm)
            | (go_at_call 19; refine (PT.out _).mono ?_; rintro e wz ⟨rfl, hwz⟩; obtain rfl := hwz.symm)
            | (go_at_call 20; refine (CU.out _).mono ?_; rintro e wz ⟨rfl, hwz⟩; obtain rfl := hwz.symm)
            | (go_at_call 22; refine (SP.out _ (XA.out _ _)).mono ?_; rintro e w5 ⟨c1, m5, c3, rfl, ⟨S5, hX5⟩, hC5⟩; have X5 := hide (hX5.up (B' := 1 + (i + 1 : Nat)) (by omega)); have C5 := hide hC5; clear hX5 hC5)
            | (go_at_call 24; refine C5.out.mono ?_; rintro e wz ⟨rfl, hwz⟩; obtain rfl := hwz.symm))
          go_roundw
          case rel => exact ⟨i + 1, S5, _, _, by omega, by omega, by go_num, X5⟩
          case measure => simp [intOf]; omega
      · have d1 : decide ((i : Int) < (len : Int)) = true := by simp; omega
        have d2 : decide ((i : Int) < (100000 : Int)) = false := by simp; omega
        have RO := hide (sx_round hX.out hn2 hn6 (by omega) (by omega))
        go_wp2_with (go_at_call 17; refine RO.out.mono ?_; rintro e w6 ⟨sm, S6, rfl, hZ6⟩; have Z6 := hide hZ6; clear hZ6)
        clear RO hX HS
        go_loopw [20] (fun rv wr2 => ∃ r : Nat, r ≤ n ∧ rv = .int .i64 r ∧ Hid (Sz w wr2 w.heap.size n tb (tb + 1) S6 ts bs)) (fun rv _ => n - (intOf rv).toNat)
        case atStart => exact ⟨0, by omega, rfl, Z6⟩
        case round =>
          clear Z6
          obtain ⟨r, hr, rfl, hZ⟩ := hrel
          by_cases hrn : r < n
          · have d3 : decide ((r : Int) < (n : Int)) = true := by simp; omega
            go_wp2_with fail
            go_loopw [21] (fun kv wr3 => ∃ k : Nat, k ≤ 8 ∧ kv = .int .i64 k ∧ Hid (Sz w wr3 w.heap.size n tb (tb + 1) S6 ts bs)) (fun kv _ => 8 - (intOf kv).toNat)
            case atStart => exact ⟨0, by omega, rfl, hZ⟩
            case round =>
              clear hZ
              obtain ⟨k, hk, rfl, hZ⟩ := hrel
              by_cases hk8 : k < 8
              · have d4 : decide ((k : Int) < 8) = true := by simp; omega
                have PT := hide (qpath k hk8)
                obtain ⟨tv, htv⟩ : ∃ tv, ts.getD k ⟨#[]⟩ = tv := ⟨_, rfl⟩
                have RD := hide (sz_read hZ.out hrn hk8)
                rw [htv] at RD
                go_wp2_with (first
                  | (go_at_call 19; refine (PT.out _).mono ?_; rintro e wz ⟨rfl, hwz⟩; obtain rfl := hwz.symm)
                  | (go_at_call 25; refine RD.out.mono ?_; rintro e w7 ⟨⟨hb, rfl⟩ | ⟨hb, rfl⟩, hZ7⟩ <;> (have Z7 := hide hZ7; have q7 := hZ7.sl.cell hk8; rw [hb, htv] at q7; obtain ⟨t1, t2, t3, t4⟩ := q7; clear hZ7 hb)))
                all_goals
                  go_roundw
                  case rel => exact ⟨k + 1, by omega, by go_num, Z7⟩
                  case measure => simp [intOf]; omega
              · have d4 : decide ((k : Int) < 8) = false := by simp; omega
                go_wp2
                go_roundw
                case rel => exact ⟨r + 1, by omega, by go_num, hZ⟩
                case measure => simp [intOf]; omega
          · have er : r = n := by omega
            subst er
            have d3 : decide ((r : Int) < (r : Int)) = false := by simp
            go_wp2
            go_ret
            exact ⟨rfl, hZ.out.sl.rn.ne.bel⟩
    · have d1 : decide ((i : Int) < (len : Int)) = false := by simp; omega
      have RO := hide (sx_round hX.out hn2 hn6 (by omega) (by omega))
      go_wp2_with (go_at_call 17; refine RO.out.mono ?_; rintro e w6 ⟨sm, S6, rfl, hZ6⟩; have Z6 := hide hZ6; clear hZ6)
      clear RO hX HS
      go_loopw [20] (fun rv wr2 => ∃ r : Nat, r ≤ n ∧ rv = .int .i64 r ∧ Hid (Sz w wr2 w.heap.size n tb (tb + 1) S6 ts bs)) (fun rv _ => n - (intOf rv).toNat)
      case atStart => exact ⟨0, by omega, rfl, Z6⟩
      case round =>
        clear Z6
        obtain ⟨r, hr, rfl, hZ⟩ := hrel
        by_cases hrn : r < n
        · have d3 : decide ((r : Int) < (n : Int)) = true := by simp; omega
          go_wp2_with fail
          go_loopw [21] (fun kv wr3 => ∃ k : Nat, k ≤ 8 ∧ kv = .int .i64 k ∧ Hid (Sz w wr3 w.heap.size n tb (tb + 1) S6 ts bs)) (fun kv _ => 8 - (intOf kv).toNat)
          case atStart => exact ⟨0, by omega, rfl, hZ⟩
          case round =>
            clear hZ
            obtain ⟨k, hk, rfl, hZ⟩ := hrel
            by_cases hk8 : k < 8
            · have d4 : decide ((k : Int) < 8) = true := by simp; omega
              have PT := hide (qpath k hk8)
              obtain ⟨tv, htv⟩ : ∃ tv, ts.getD k ⟨#[]⟩ = tv := ⟨_, rfl⟩
              have RD := hide (sz_read hZ.out hrn hk8)
              rw [htv] at RD
              go_wp2_with (first
                | (go_at_call 19; refine (PT.out _).mono ?_; rintro e wz ⟨rfl, hwz⟩; obtain rfl := hwz.symm)
                | (go_at_call 25; refine RD.out.mono ?_; rintro e w7 ⟨⟨hb, rfl⟩ | ⟨hb, rfl⟩, hZ7⟩ <;> (have Z7 := hide hZ7; have q7 := hZ7.sl.cell hk8; rw [hb, htv] at q7; obtain ⟨t1, t2, t3, t4⟩ := q7; clear hZ7 hb)))
              all_goals
                go_roundw
                case rel => exact ⟨k + 1, by omega, by go_num, Z7⟩
                case measure => simp [intOf]; omega
            · have d4 : decide ((k : Int) < 8) = false := by simp; omega
              go_wp2
              go_roundw
              case rel => exact ⟨r + 1, by omega, by go_num, hZ⟩
              case measure => simp [intOf]; omega
        · have er : r = n := by omega
          subst er
          have d3 : decide ((r : Int) < (r : Int)) = false := by simp
          go_wp2
          go_ret
          exact ⟨rfl, hZ.out.sl.rn.ne.bel⟩
end Go.Proofs.YtaelaldmibgibaaGreat
