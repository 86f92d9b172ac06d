/- Scripts of the statements that do not ask the document's answer: play, over the twin. -/
import Derived.Test.YtaelaldmibgibaaGreatM16
import Derived.Test.YtaelaldmibgibaaGreatM17
import Derived.Test.YtaelaldmibgibaaGreatM15

set_option linter.unusedVariables false
set_option linter.unusedSimpArgs false
set_option linter.unusedSectionVars false

namespace Go.Proofs.YtaelaldmibgibaaGreat
open Go.RowKit Go.Sim

theorem q_func16 : (twin Tryz.prog pl).funcs[16]? = some Tryz.f16 := tw_func Tryz.func16 (by decide) (by kernel_rfl)
@[simp] theorem q_call16 (args : Array Value) (w : World) : (callFunc 16 args).run (twin Tryz.prog pl) w = .ok (.enter 16 args) w := tw_call q_func16 (by kernel_rfl) (by kernel_rfl) args w
theorem add_block' (ad : Addr) (k : Nat) : (ad.add k).block = ad.block := by unfold Addr.add; split <;> rfl
theorem add_next (ad : Addr) (k j : Nat) (hj : j ≠ 0) : ad.add (k + j) = ⟨(ad.add k).block, (ad.add k).off + j, none⟩ := by
  by_cases hk : k = 0
  · subst hk
    simp [Addr.add, hj]
  · simp [Addr.add, hk, hj]
    omega
def inI (c : Int) : Prop := -9223372036854775808 ≤ c ∧ c < 9223372036854775808
structure StepAt (w : World) (ad : Addr) (i : Nat) (o : StepO) : Prop where
  lt : ad.block < w.heap.size
  c0 : w.cell? (ad.add (i * 5)) = some (.int .i64 o.what)
  c1 : w.cell? (ad.add (i * 5 + 1)) = some (.int .i64 o.r)
  c2 : w.cell? (ad.add (i * 5 + 2)) = some (.int .i64 o.f)
  c3 : w.cell? (ad.add (i * 5 + 3)) = some (.int .i64 o.path)
  c4 : w.cell? (ad.add (i * 5 + 4)) = some (.string o.text)
  r0 : inI o.what
  r1 : inI o.r
  r2 : inI o.f
  r3 : inI o.path
theorem StepAt.below {w w' : World} {ad : Addr} {i : Nat} {o : StepO} (h : StepAt w ad i o) (hb : Below w.heap.size w w') : StepAt w' ad i o := by
  have k : ∀ j, w'.cell? (ad.add j) = w.cell? (ad.add j) := fun j => hb.cell (by rw [add_block']; exact h.lt)
  exact ⟨Nat.lt_of_lt_of_le h.lt hb.size, (k _).trans h.c0, (k _).trans h.c1, (k _).trans h.c2, (k _).trans h.c3, (k _).trans h.c4, h.r0, h.r1, h.r2, h.r3⟩
def runS (n : Nat) (S : List RS) (os : Nat → StepO) (k : Nat) : List RS := (List.range k).foldl (fun S i => doStep n S (os i)) S
theorem runS_succ (n : Nat) (S : List RS) (os : Nat → StepO) (k : Nat) : runS n S os (k + 1) = doStep n (runS n S os k) (os k) := by
  unfold runS
  rw [List.range_succ, List.foldl_append]
  rfl
theorem runS_len (n : Nat) (S : List RS) (os : Nat → StepO) (k : Nat) : (runS n S os k).length = S.length := by
  induction k with
  | zero => rfl
  | succ k ih => rw [runS_succ, doStep_len, ih]
theorem runS_wf {n : Nat} {S : List RS} (hn : 2 ≤ n) (h6 : n ≤ 6) (hS : S.length = n) {B : Int} (h0 : 0 ≤ B) (h : Wf B S) (os : Nat → StepO) (k : Nat) (hk : B + k ≤ 1000000000) : Wf (B + k) (runS n S os k) := by
  induction k with
  | zero => exact h.mono (by omega)
  | succ k ih =>
    rw [runS_succ]
    have := doStep_wf hn h6 (by rw [runS_len]; exact hS) (B := B + k) (by omega) (by omega) (ih (by omega)) (os k)
    exact this.mono (by omega)
theorem Keeps.trans {K : List Nat} {a b c : World} (h : Keeps K a b) (h' : Keeps K b c) : Keeps K a c := fun k hk => (h' k hk).trans (h k hk)
theorem Keeps.refl (K : List Nat) (w : World) : Keeps K w w := fun _ _ => rfl
theorem Ne.alloc {w0 w : World} {nb : Nat} {S : List RS} {K : List Nat} (h : Ne w0 w nb S K) (cs : Array Value) (t : TypeId) : Ne w0 (w.alloc (.cells cs t)) nb S K ∧ Keeps K w (w.alloc (.cells cs t)) :=
  h.more ((Below.refl _ _).alloc (Nat.le_refl _) _) (Fixed.alloc h.fix _ _)
section
variable {w0 : World} {nb : Nat} {S : List RS} {K : List Nat} {n : Nat} {o : StepO}
theorem st_write (hn : 2 ≤ n) (h6 : n ≤ 6) (hS : S.length = n) {B : Int} (h0 : 0 ≤ B) (hB : B < 1000000000) (hW : Wf B S) (hk : o.W ≤ 2) (V : World) (h : Ne w0 V nb S K) :
    Calls (twin Tryz.prog pl) 10 #[.pointer (some ⟨nb, 0, none⟩), .int .i64 (o.R n), .string o.P, .string (cutT o.text)] V fun e w' => e = .returned (.int .i64 0) ∧ Ne w0 w' nb (doStep n S o) K ∧ Keeps K V w' := by
  have hr := o.R_lt hn
  have hx := getD_at (S := S) (r := o.R n) (by omega)
  refine (eWrite h (o.R n) hx o.P (cutT o.text) o.P_in (cutT_size _)).mono ?_
  rintro e w' ⟨rfl, h1, h2⟩
  rw [(wr_wf (hW.at hx) (by omega) h0 hB o.P_in _).1]
  unfold doStep
  rw [if_pos hk]
  exact ⟨rfl, h1, h2⟩
theorem st_remove (hn : 2 ≤ n) (h6 : n ≤ 6) (hS : S.length = n) {B : Int} (h0 : 0 ≤ B) (hB : B < 1000000000) (hW : Wf B S) (hk : o.W = 3) (V : World) (h : Ne w0 V nb S K) :
    Calls (twin Tryz.prog pl) 21 #[.pointer (some ⟨nb, 0, none⟩), .int .i64 (o.R n), .string o.P] V fun e w' => ∃ z : Int, (z = 0 ∨ z = 4) ∧ e = .returned (.int .i64 z) ∧ Ne w0 w' nb (doStep n S o) K ∧ Keeps K V w' := by
  have hr := o.R_lt hn
  have hx := getD_at (S := S) (r := o.R n) (by omega)
  refine (eRemove h (o.R n) hx o.P o.P_in).mono ?_
  rintro e w' ⟨rfl, h1, h2⟩
  refine ⟨_, (rm_wf (hW.at hx) (by omega) h0 hB o.P_in).1, rfl, ?_, h2⟩
  unfold doStep
  rw [if_neg (by omega), if_pos hk]
  exact h1
theorem st_path (hn : 2 ≤ n) (h6 : n ≤ 6) (hS : S.length = n) {B : Int} (hW : Wf B S) (hk : o.W = 4) (V : World) (h : Ne w0 V nb S K) :
    Calls (twin Tryz.prog pl) 26 #[.pointer (some ⟨nb, 0, none⟩), .int .i64 (o.R n), .int .i64 (o.F n), .string o.P] V fun e w' => ∃ z : Int, e = .returned (.tuple #[.int .i64 z, .int .i64 0]) ∧ Ne w0 w' nb (doStep n S o) K ∧ Keeps K V w' := by
  have hr := o.R_lt hn
  have hf := o.F_ok hn
  have hx := getD_at (S := S) (r := o.R n) (by omega)
  have hy := getD_at (S := S) (r := o.F n) (by omega)
  refine (ePullPath h (o.R n) (o.F n) (by omega) hx hy o.P o.P_in).mono ?_
  rintro e w' ⟨rfl, h1, h2⟩
  rw [(pp_wf (hW.at hx) o.P_in).1]
  refine ⟨_, rfl, ?_, h2⟩
  unfold doStep
  rw [if_neg (by omega), if_neg (by omega), if_pos hk]
  exact h1
theorem st_pull (hn : 2 ≤ n) (h6 : n ≤ 6) (hS : S.length = n) {B : Int} (h0 : 0 ≤ B) (hW : Wf B S) (hk : o.W = 5 ∨ o.W = 6) (V : World) (h : Ne w0 V nb S K) :
    Calls (twin Tryz.prog pl) 22 #[.pointer (some ⟨nb, 0, none⟩), .int .i64 (o.R n), .int .i64 (o.F n)] V fun e w' => ∃ rv, e = .returned (.tuple #[rv, .int .i64 0]) ∧ Ne w0 w' nb (doStep n S o) K ∧ Keeps K V w' := by
  have hr := o.R_lt hn
  have hf := o.F_ok hn
  have hx := getD_at (S := S) (r := o.R n) (by omega)
  have hy := getD_at (S := S) (r := o.F n) (by omega)
  refine (ePull h (o.R n) (o.F n) (by omega) hx hy).mono ?_
  rintro e w' ⟨rv, rfl, h1, h2, _⟩
  rw [(pl_wf (hW.at hx) (hW.at hy) h0).1]
  refine ⟨_, rfl, ?_, h2⟩
  unfold doStep
  rw [if_neg (by omega), if_neg (by omega), if_neg (by omega), if_pos (by omega)]
  exact h1
theorem st_resolve (hn : 2 ≤ n) (h6 : n ≤ 6) (hS : S.length = n) {B : Int} (h0 : 0 ≤ B) (hB : B < 1000000000) (hW : Wf B S) (hk : o.W = 7) (V : World) (h : Ne w0 V nb S K) :
    Calls (twin Tryz.prog pl) 27 #[.pointer (some ⟨nb, 0, none⟩), .int .i64 (o.R n), .int .i64 (o.F n), .string o.P, .bool o.T] V fun e w' => ∃ z : Int, (z = 0 ∨ z = 4) ∧ e = .returned (.int .i64 z) ∧ Ne w0 w' nb (doStep n S o) K ∧ Keeps K V w' := by
  have hr := o.R_lt hn
  have hf := o.F_ok hn
  have hx := getD_at (S := S) (r := o.R n) (by omega)
  have hy := getD_at (S := S) (r := o.F n) (by omega)
  refine (eResolve h (o.R n) (o.F n) (by omega) hx hy o.P o.P_in o.T).mono ?_
  rintro e w' ⟨rfl, h1, h2⟩
  refine ⟨_, (rs_wf (hW.at hx) (by omega) h0 hB o.P_in o.T).1, rfl, ?_, h2⟩
  unfold doStep
  rw [if_neg (by omega), if_neg (by omega), if_neg (by omega), if_neg (by omega)]
  exact h1
end
set_option maxRecDepth 100000 in
set_option maxHeartbeats 4000000 in
theorem play_any {w0 w : World} {nb n : Nat} {S : List RS} {K : List Nat} (h : Ne w0 w nb S K) (hn : 2 ≤ n) (h6 : n ≤ 6) (hS : S.length = n) {B : Int} (h0 : 0 ≤ B) (hB : B ≤ 100000) (hW : Wf B S) (a : Option Addr) (len cap : Nat) (hlen : len ≤ 4611686018427387904) (os : Nat → StepO) (hs : ∀ i, i < len → ∃ ad, a = some ad ∧ StepAt w0 ad i (os i)) :
    Calls (twin Tryz.prog pl) 16 #[.pointer (some ⟨nb, 0, none⟩), .int .i64 n, .slice a len cap] w fun e w' => e = .returned (.bool true) ∧ Ne w0 w' nb (runS n S os (min len 100000)) K ∧ Keeps K w w' := by
  have HS := hide hs
  have H0 := hide h
  have WF : Hid (∀ k : Nat, k ≤ 100000 → Wf (B + k) (runS n S os k)) := fun k hk => runS_wf hn h6 hS h0 hW os k (by omega)
  have LN : Hid (∀ k, (runS n S os k).length = n) := fun k => by unfold Hid at *; rw [runS_len]; exact hS
  clear hs h hW
  go_enter q_func16, Tryz.ntmps16
  go_wp2_with fail
  go_loopw [7] (fun iv wr => ∃ i : Nat, i ≤ len ∧ i ≤ 100000 ∧ iv = .int .i64 i ∧ Hid (Ne w0 wr nb (runS n S os i) K) ∧ Hid (Keeps K w wr)) (fun iv _ => len - (intOf iv).toNat)
  case atStart => exact ⟨0, Nat.zero_le _, Nat.zero_le _, rfl, H0, Keeps.refl K w⟩
  case round =>
    clear H0
    obtain ⟨i, hi, hi', rfl, hN, hK⟩ := hrel
    by_cases hlt : i < len
    · by_cases hlt' : i < 100000
      · obtain ⟨ad, rfl, hO⟩ := HS.out i hlt
        obtain ⟨_, c0, c1, c2, c3, c4, r0, r1, r2, r3⟩ := hO.below hN.out.bel
        rw [add_next _ _ _ (by decide)] at c1 c2 c3 c4
        have hWi := WF.out i hi'
        have hLi := LN.out i
        have HR := hide (runS_succ n S os i)
        have d1 : decide ((i : Int) < (len : Int)) = true := by simp; omega
        have d2 : decide ((i : Int) < (100000 : Int)) = true := by simp; omega
        generalize os i = o at *
        generalize runS n S os i = Si at *
        generalize hSj : runS n S os (i + 1) = Sj at *
        have HJ := hide hSj
        clear hSj
        have hr := o.R_lt hn
        have hf := o.F_ok hn
        have PR : Hid (∀ V, Calls (twin Tryz.prog pl) 14 #[.int .i64 o.r, .int .i64 n] V fun e w' => e = .returned (.int .i64 (o.R n)) ∧ w' = V) := fun V => by
          have := qpick o.r n r1 (by omega) V
          have e : ((o.R n : Nat) : Int) = pickR o.r n := by unfold StepO.R; have := pickR_lt o.r n (by omega); omega
          rw [e]; exact this
        have PF : Hid (∀ V, Calls (twin Tryz.prog pl) 23 #[.int .i64 (o.R n), .int .i64 o.f, .int .i64 n] V fun e w' => e = .returned (.int .i64 (o.F n)) ∧ w' = V) := fun V => by
          have := qother (o.R n) n o.f hr ⟨hn, h6⟩ r2 V
          have e : ((o.F n : Nat) : Int) = otherR (o.R n) o.f n := by unfold StepO.F; have := otherR_ok (o.R n) n o.f hr hn; omega
          rw [e]; exact this
        have hp8 := pickR_lt o.path 8 (by decide)
        have PP : Hid (∀ V, Calls (twin Tryz.prog pl) 14 #[.int .i64 o.path, .int .i64 8] V fun e w' => e = .returned (.int .i64 ((pickR o.path 8).toNat : Nat)) ∧ w' = V) := fun V => by
          have := qpick o.path 8 r3 (by decide) V
          rw [Int.toNat_of_nonneg hp8.1]; exact this
        have PT : Hid (∀ V, Calls (twin Tryz.prog pl) 19 #[.int .i64 ((pickR o.path 8).toNat : Nat)] V fun e w' => e = .returned (.string o.P) ∧ w' = V) := fun V => qpath _ (by omega) V
        have hw8 := pickR_lt o.what 8 (by decide)
        have PW : Hid (∀ V, Calls (twin Tryz.prog pl) 14 #[.int .i64 o.what, .int .i64 8] V fun e w' => e = .returned (.int .i64 (o.W : Nat)) ∧ w' = V) := fun V => by
          have := qpick o.what 8 r0 (by decide) V
          unfold StepO.W
          rw [Int.toNat_of_nonneg hw8.1]; exact this
        have PK : Hid (∀ V, Calls (twin Tryz.prog pl) 14 #[.int .i64 o.f, .int .i64 2] V fun e w' => e = .returned (.int .i64 (pickR o.f 2)) ∧ w' = V) := fun V => qpick o.f 2 r2 (by decide) V
        have hW7 : o.W < 8 := by unfold StepO.W; omega
        have HN : Hid (∀ cs t, Ne w0 (wr.alloc (.cells cs t)) nb Si K ∧ Keeps K w (wr.alloc (.cells cs t))) := fun cs t => ⟨(hN.out.alloc cs t).1, hK.out.trans (hN.out.alloc cs t).2⟩
        have SW : Hid (o.W ≤ 2 → ∀ V, Ne w0 V nb Si K → _) := fun hk V hV => st_write (o := o) hn h6 hLi (by omega) (by omega) hWi hk V hV
        have SR : Hid (o.W = 3 → ∀ V, Ne w0 V nb Si K → _) := fun hk V hV => st_remove (o := o) hn h6 hLi (by omega) (by omega) hWi hk V hV
        have SP : Hid (o.W = 4 → ∀ V, Ne w0 V nb Si K → _) := fun hk V hV => st_path (o := o) hn h6 hLi hWi hk V hV
        have SL : Hid (o.W = 5 ∨ o.W = 6 → ∀ V, Ne w0 V nb Si K → _) := fun hk V hV => st_pull (o := o) hn h6 hLi (by omega) hWi hk V hV
        have SV : Hid (o.W = 7 → ∀ V, Ne w0 V nb Si K → _) := fun hk V hV => st_resolve (o := o) hn h6 hLi (by omega) (by omega) hWi hk V hV
        rw [← HR.out] at SW SR SP SL SV
        unfold StepO.T at SV
        have hq2 := pickR_lt o.f 2 (by decide)
        generalize pickR o.f 2 = q2 at *
        generalize (pickR o.path 8).toNat = kp at *
        generalize o.P = pp at *
        generalize o.R n = rr at *
        generalize o.F n = ff at *
        clear hO hWi hLi HR r0 r1 r2 r3 hp8 hw8
        have CU := hide (qcut o.text)
        generalize cutT o.text = ct at *
        generalize hoW : o.W = kw at *
        clear hoW
        match kw, hW7 with
        | 0, _ =>
          go_wp2_with (first
            | (go_at_call_of 14 (Value.int .i64 o.r); refine (PR.out _).mono ?_; rintro e wz ⟨rfl, rfl⟩)
            | (go_at_call_of 14 (Value.int .i64 o.path); refine (PP.out _).mono ?_; rintro e wz ⟨rfl, rfl⟩)
            | (go_at_call_of 14 (Value.int .i64 o.what); refine (PW.out _).mono ?_; rintro e wz ⟨rfl, rfl⟩)
            | (go_at_call_of 14 (Value.int .i64 o.f); refine (PK.out _).mono ?_; rintro e wz ⟨rfl, rfl⟩)
            | (go_at_call 23; refine (PF.out _).mono ?_; rintro e wz ⟨rfl, rfl⟩)
            | (go_at_call 19; refine (PT.out _).mono ?_; rintro e wz ⟨rfl, rfl⟩)
            | (go_at_call 20; refine (CU.out _).mono ?_; rintro e wz ⟨rfl, rfl⟩)
            | (go_at_call 10; refine (SW.out (by decide) _ (HN.out _ _).1).mono ?_; rintro e w5 ⟨rfl, hN5, hK5⟩; have N5 := hide hN5; have K5 := hide hK5; clear hN5 hK5))
          go_roundw
          case rel => exact ⟨i + 1, by omega, by omega, by go_num, (by rw [HJ.out]; exact N5), (HN.out _ _).2.trans K5.out⟩
          case measure => simp [intOf]; omega
        | 1, _ =>
          go_wp2_with (first
            | (go_at_call_of 14 (Value.int .i64 o.r); refine (PR.out _).mono ?_; rintro e wz ⟨rfl, rfl⟩)
            | (go_at_call_of 14 (Value.int .i64 o.path); refine (PP.out _).mono ?_; rintro e wz ⟨rfl, rfl⟩)
            | (go_at_call_of 14 (Value.int .i64 o.what); refine (PW.out _).mono ?_; rintro e wz ⟨rfl, rfl⟩)
            | (go_at_call_of 14 (Value.int .i64 o.f); refine (PK.out _).mono ?_; rintro e wz ⟨rfl, rfl⟩)
            | (go_at_call 23; refine (PF.out _).mono ?_; rintro e wz ⟨rfl, rfl⟩)
            | (go_at_call 19; refine (PT.out _).mono ?_; rintro e wz ⟨rfl, rfl⟩)
            | (go_at_call 20; refine (CU.out _).mono ?_; rintro e wz ⟨rfl, rfl⟩)
            | (go_at_call 10; refine (SW.out (by decide) _ (HN.out _ _).1).mono ?_; rintro e w5 ⟨rfl, hN5, hK5⟩; have N5 := hide hN5; have K5 := hide hK5; clear hN5 hK5))
          go_roundw
          case rel => exact ⟨i + 1, by omega, by omega, by go_num, (by rw [HJ.out]; exact N5), (HN.out _ _).2.trans K5.out⟩
          case measure => simp [intOf]; omega
        | 2, _ =>
          go_wp2_with (first
            | (go_at_call_of 14 (Value.int .i64 o.r); refine (PR.out _).mono ?_; rintro e wz ⟨rfl, rfl⟩)
            | (go_at_call_of 14 (Value.int .i64 o.path); refine (PP.out _).mono ?_; rintro e wz ⟨rfl, rfl⟩)
            | (go_at_call_of 14 (Value.int .i64 o.what); refine (PW.out _).mono ?_; rintro e wz ⟨rfl, rfl⟩)
            | (go_at_call_of 14 (Value.int .i64 o.f); refine (PK.out _).mono ?_; rintro e wz ⟨rfl, rfl⟩)
            | (go_at_call 23; refine (PF.out _).mono ?_; rintro e wz ⟨rfl, rfl⟩)
            | (go_at_call 19; refine (PT.out _).mono ?_; rintro e wz ⟨rfl, rfl⟩)
            | (go_at_call 20; refine (CU.out _).mono ?_; rintro e wz ⟨rfl, rfl⟩)
            | (go_at_call 10; refine (SW.out (by decide) _ (HN.out _ _).1).mono ?_; rintro e w5 ⟨rfl, hN5, hK5⟩; have N5 := hide hN5; have K5 := hide hK5; clear hN5 hK5))
          go_roundw
          case rel => exact ⟨i + 1, by omega, by omega, by go_num, (by rw [HJ.out]; exact N5), (HN.out _ _).2.trans K5.out⟩
          case measure => simp [intOf]; omega
        | 3, _ =>
          have SR2 : Hid (∀ V, Ne w0 V nb Si K → Calls (twin Tryz.prog pl) 21 #[.pointer (some ⟨nb, 0, none⟩), .int .i64 rr, .string pp] V fun e w' => ∃ z : Int, (z = 0 ∨ z = 4) ∧ e = .returned (.int .i64 z) ∧ Ne w0 w' nb Sj K ∧ Keeps K V w') := SR.out rfl
          go_wp2_with (first
            | (go_at_call_of 14 (Value.int .i64 o.r); refine (PR.out _).mono ?_; rintro e wz ⟨rfl, rfl⟩)
            | (go_at_call_of 14 (Value.int .i64 o.path); refine (PP.out _).mono ?_; rintro e wz ⟨rfl, rfl⟩)
            | (go_at_call_of 14 (Value.int .i64 o.what); refine (PW.out _).mono ?_; rintro e wz ⟨rfl, rfl⟩)
            | (go_at_call_of 14 (Value.int .i64 o.f); refine (PK.out _).mono ?_; rintro e wz ⟨rfl, rfl⟩)
            | (go_at_call 23; refine (PF.out _).mono ?_; rintro e wz ⟨rfl, rfl⟩)
            | (go_at_call 19; refine (PT.out _).mono ?_; rintro e wz ⟨rfl, rfl⟩)
            | (go_at_call 20; refine (CU.out _).mono ?_; rintro e wz ⟨rfl, rfl⟩)
            | (go_at_call 21; refine (SR2.out _ (HN.out _ _).1).mono ?_; rintro e w5 ⟨z5, hz5, rfl, hN5, hK5⟩; have N5 := hide hN5; have K5 := hide hK5; have hz5' : z5 = 0 ∨ z5 = 4 := hz5; clear hN5 hK5; rcases hz5' with rfl | rfl))
          all_goals
            go_roundw
            case rel => exact ⟨i + 1, by omega, by omega, by go_num, (by rw [HJ.out]; exact N5), (HN.out _ _).2.trans K5.out⟩
            case measure => simp [intOf]; omega
        | 4, _ =>
          go_wp2_with (first
            | (go_at_call_of 14 (Value.int .i64 o.r); refine (PR.out _).mono ?_; rintro e wz ⟨rfl, rfl⟩)
            | (go_at_call_of 14 (Value.int .i64 o.path); refine (PP.out _).mono ?_; rintro e wz ⟨rfl, rfl⟩)
            | (go_at_call_of 14 (Value.int .i64 o.what); refine (PW.out _).mono ?_; rintro e wz ⟨rfl, rfl⟩)
            | (go_at_call_of 14 (Value.int .i64 o.f); refine (PK.out _).mono ?_; rintro e wz ⟨rfl, rfl⟩)
            | (go_at_call 23; refine (PF.out _).mono ?_; rintro e wz ⟨rfl, rfl⟩)
            | (go_at_call 19; refine (PT.out _).mono ?_; rintro e wz ⟨rfl, rfl⟩)
            | (go_at_call 20; refine (CU.out _).mono ?_; rintro e wz ⟨rfl, rfl⟩)
            | (go_at_call 26; refine (SP.out (by trivial) _ (HN.out _ _).1).mono ?_; rintro e w5 ⟨z5, rfl, hN5, hK5⟩; have N5 := hide hN5; have K5 := hide hK5; clear hN5 hK5))
          go_roundw
          case rel => exact ⟨i + 1, by omega, by omega, by go_num, (by rw [HJ.out]; exact N5), (HN.out _ _).2.trans K5.out⟩
          case measure => simp [intOf]; omega
        | 5, _ =>
          go_wp2_with (first
            | (go_at_call_of 14 (Value.int .i64 o.r); refine (PR.out _).mono ?_; rintro e wz ⟨rfl, rfl⟩)
            | (go_at_call_of 14 (Value.int .i64 o.path); refine (PP.out _).mono ?_; rintro e wz ⟨rfl, rfl⟩)
            | (go_at_call_of 14 (Value.int .i64 o.what); refine (PW.out _).mono ?_; rintro e wz ⟨rfl, rfl⟩)
            | (go_at_call_of 14 (Value.int .i64 o.f); refine (PK.out _).mono ?_; rintro e wz ⟨rfl, rfl⟩)
            | (go_at_call 23; refine (PF.out _).mono ?_; rintro e wz ⟨rfl, rfl⟩)
            | (go_at_call 19; refine (PT.out _).mono ?_; rintro e wz ⟨rfl, rfl⟩)
            | (go_at_call 20; refine (CU.out _).mono ?_; rintro e wz ⟨rfl, rfl⟩)
            | (go_at_call 22; refine (SL.out (by decide) _ (HN.out _ _).1).mono ?_; rintro e w5 ⟨z5, rfl, hN5, hK5⟩; have N5 := hide hN5; have K5 := hide hK5; clear hN5 hK5))
          go_roundw
          case rel => exact ⟨i + 1, by omega, by omega, by go_num, (by rw [HJ.out]; exact N5), (HN.out _ _).2.trans K5.out⟩
          case measure => simp [intOf]; omega
        | 6, _ =>
          go_wp2_with (first
            | (go_at_call_of 14 (Value.int .i64 o.r); refine (PR.out _).mono ?_; rintro e wz ⟨rfl, rfl⟩)
            | (go_at_call_of 14 (Value.int .i64 o.path); refine (PP.out _).mono ?_; rintro e wz ⟨rfl, rfl⟩)
            | (go_at_call_of 14 (Value.int .i64 o.what); refine (PW.out _).mono ?_; rintro e wz ⟨rfl, rfl⟩)
            | (go_at_call_of 14 (Value.int .i64 o.f); refine (PK.out _).mono ?_; rintro e wz ⟨rfl, rfl⟩)
            | (go_at_call 23; refine (PF.out _).mono ?_; rintro e wz ⟨rfl, rfl⟩)
            | (go_at_call 19; refine (PT.out _).mono ?_; rintro e wz ⟨rfl, rfl⟩)
            | (go_at_call 20; refine (CU.out _).mono ?_; rintro e wz ⟨rfl, rfl⟩)
            | (go_at_call 22; refine (SL.out (by decide) _ (HN.out _ _).1).mono ?_; rintro e w5 ⟨z5, rfl, hN5, hK5⟩; have N5 := hide hN5; have K5 := hide hK5; clear hN5 hK5))
          go_roundw
          case rel => exact ⟨i + 1, by omega, by omega, by go_num, (by rw [HJ.out]; exact N5), (HN.out _ _).2.trans K5.out⟩
          case measure => simp [intOf]; omega
        | 7, _ =>
          rcases (by omega : q2 = 0 ∨ q2 = 1) with rfl | rfl
          all_goals
            go_wp2_with (first
              | (go_at_call_of 14 (Value.int .i64 o.r); refine (PR.out _).mono ?_; rintro e wz ⟨rfl, rfl⟩)
              | (go_at_call_of 14 (Value.int .i64 o.path); refine (PP.out _).mono ?_; rintro e wz ⟨rfl, rfl⟩)
              | (go_at_call_of 14 (Value.int .i64 o.what); refine (PW.out _).mono ?_; rintro e wz ⟨rfl, rfl⟩)
              | (go_at_call_of 14 (Value.int .i64 o.f); refine (PK.out _).mono ?_; rintro e wz ⟨rfl, rfl⟩)
              | (go_at_call 23; refine (PF.out _).mono ?_; rintro e wz ⟨rfl, rfl⟩)
              | (go_at_call 19; refine (PT.out _).mono ?_; rintro e wz ⟨rfl, rfl⟩)
              | (go_at_call 20; refine (CU.out _).mono ?_; rintro e wz ⟨rfl, rfl⟩)
              | (go_at_call 27; refine (SV.out (by trivial) _ (HN.out _ _).1).mono ?_; rintro e w5 ⟨z5, hz5, rfl, hN5, hK5⟩; have N5 := hide hN5; have K5 := hide hK5; have hz5' : z5 = 0 ∨ z5 = 4 := hz5; clear hN5 hK5; rcases hz5' with rfl | rfl))
            all_goals
              go_roundw
              case rel => exact ⟨i + 1, by omega, by omega, by go_num, (by rw [HJ.out]; exact N5), (HN.out _ _).2.trans K5.out⟩
              case measure => simp [intOf]; omega
      · have ei : i = 100000 := by omega
        subst ei
        have em : min len 100000 = 100000 := by omega
        have d1 : decide (((100000 : Nat) : Int) < (len : Int)) = true := by simp; omega
        go_wp2
        go_ret
        rw [em]
        exact ⟨rfl, hN.out, hK.out⟩
    · have ei : i = len := by omega
      subst ei
      have em : min i 100000 = i := by omega
      have d1 : decide ((i : Int) < (i : Int)) = false := by simp
      go_wp2
      go_ret
      rw [em]
      exact ⟨rfl, hN.out, hK.out⟩
end Go.Proofs.YtaelaldmibgibaaGreat
