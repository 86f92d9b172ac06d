/- Where all pull from all and nothing is told, all have the sa. -/
import Derived.Test.YtaelaldmibgibaaGreatDoorX48

set_option linter.all false
set_option maxHeartbeats 4000000
set_option maxRecDepth 100000

namespace Go.Proofs.K
open Go.RowKit Go.Sim
open Classical
theorem eqT_of {a b : Nat → Int} (h : ∀ k < 6, a k = b k) : eqT a b = true := by
 unfold eqT
 simp only [Bool.and_eq_true, beq_iff_eq]
 exact ⟨h 0 (by omega), h 1 (by omega), h 2 (by omega), h 3 (by omega), h 4 (by omega), h 5 (by omega)⟩
def yxj : ByteArray := ⟨#[116, 101, 120, 116]⟩
def yqv : RS := ⟨fun _ => 0, []⟩
def beg0 : RS := (wrR 0 yqv yhd yxj).2
def beg1 : RS := (plR 1 yqv 0 beg0).2.1
theorem beg_a : (wrR 0 yqv yhd yxj).1 = 0 := by decide
theorem beg_b : (plR 1 yqv 0 beg0).1 = 0 := by kernel_rfl
theorem beg_c : (plR 1 yqv 0 beg0).2.2 = [(yhd, 1)] := by kernel_rfl
theorem beg_d : rdR 1 beg1 yhd = (yxj, 0) := by kernel_rfl
def begS (n : Nat) : List RS := ((ykw n).set 0 beg0).set 1 beg1
theorem yoe : yhd ∈ yck := List.mem_cons_self ..
def neCh (x y : Value) : Sem Value := binOp .neq 44 x y
theorem neChange (x y : Value) : binOp .neq 44 x y = neCh x y := rfl
theorem run_neCh (w : World) : (neCh (.agg #[.int .i64 1, .string ⟨#[102, 105, 114, 115, 116]⟩, .int .i64 1]) (.agg #[.int .i64 1, .string ⟨#[102, 105, 114, 115, 116]⟩, .int .i64 1])).run (twin Tryz.prog pl) w = .ok (.bool false) w := by kernel_rfl
@[simp] theorem q_call8 (args : Array Value) (w : World) : (callFunc 25 args).run (twin Tryz.prog pl) w = .ok (.enter 25 args) w := ygb (by decide) args w
@[simp] theorem q_call10 (args : Array Value) (w : World) : (callFunc 29 args).run (twin Tryz.prog pl) w = .ok (.enter 29 args) w := ygb (by decide) args w
@[simp] theorem q_call19 (args : Array Value) (w : World) : (callFunc 31 args).run (twin Tryz.prog pl) w = .ok (.enter 31 args) w := ygb (by decide) args w
@[simp] theorem q_call20 (args : Array Value) (w : World) : (callFunc 32 args).run (twin Tryz.prog pl) w = .ok (.enter 32 args) w := ygb (by decide) args w
@[simp] theorem q_call21 (args : Array Value) (w : World) : (callFunc 33 args).run (twin Tryz.prog pl) w = .ok (.enter 33 args) w := ygb (by decide) args w
@[simp] theorem q_call23 (args : Array Value) (w : World) : (callFunc 16 args).run (twin Tryz.prog pl) w = .ok (.enter 16 args) w := ygb (by decide) args w
@[simp] theorem q_call25 (args : Array Value) (w : World) : (callFunc 30 args).run (twin Tryz.prog pl) w = .ok (.enter 30 args) w := ygb (by decide) args w
@[simp] theorem q_call26 (args : Array Value) (w : World) : (callFunc 34 args).run (twin Tryz.prog pl) w = .ok (.enter 34 args) w := ygb (by decide) args w
@[simp] theorem q_call27 (args : Array Value) (w : World) : (callFunc 35 args).run (twin Tryz.prog pl) w = .ok (.enter 35 args) w := ygb (by decide) args w
attribute [local go_sem ↓] neChange
attribute [local go_sem] run_neCh
theorem begun_any (n : Nat) (h2 : 2 ≤ n) (h6 : n ≤ 6) (w : World) (hx : ybr w) :
  Calls (twin Tryz.prog pl) 14 #[.int .i64 n] w fun e w' => e = .returned (.pointer (some ⟨w.heap.size, 0, none⟩)) ∧ Ne w w' w.heap.size (begS n) [] := by
 have e0 : (ykw n)[0]? = some yqv := by unfold ykw; rw [List.getElem?_replicate, if_pos (by omega)]; rfl
 have e1 : ((ykw n).set 0 beg0)[1]? = some yqv := by rw [List.getElem?_set_ne (by omega)]; unfold ykw; rw [List.getElem?_replicate, if_pos (by omega)]; rfl
 have hnl : (ykw n).length = n := by simp [ykw]
 have e2 : ((ykw n).set 0 beg0)[0]? = some beg0 := by rw [List.getElem?_set_self (by omega)]
 have e3 : (begS n)[1]? = some beg1 := by unfold begS; rw [List.getElem?_set_self (by simp; omega)]
 have C1 := yab (eNew n w (by omega) h6 hx)
 have C2 : Hid (∀ V, Ne w V w.heap.size (ykw n) [] → Calls (twin Tryz.prog pl) 29 #[.pointer (some ⟨w.heap.size, 0, none⟩), .int .i64 0, .string yhd, .string yxj] V fun e w' => e = .returned (.int .i64 0) ∧ Ne w w' w.heap.size ((ykw n).set 0 beg0) []) := fun V hV => by
  refine (eWrite hV 0 e0 yhd yxj yoe (by decide)).mono ?_
  rintro e w' ⟨rfl, hN, _⟩
  exact ⟨by rw [beg_a], hN⟩
 have C3 : Hid (∀ V, Ne w V w.heap.size ((ykw n).set 0 beg0) [] → Calls (twin Tryz.prog pl) 17 #[.pointer (some ⟨w.heap.size, 0, none⟩), .int .i64 1, .int .i64 0] V fun e w' => ∃ g cap, e = .returned (.tuple #[.slice (some ⟨g, 0, none⟩) 1 cap, .int .i64 0]) ∧ Ne w w' w.heap.size (begS n) [] ∧ w'.ownsRow 0 44 3 (.slice (some ⟨g, 0, none⟩) 1 cap) 1 [.int .i64 1, .string yhd, .int .i64 1]) := fun V hV => by
  refine (ePull hV 1 0 (by omega) e1 e2).mono ?_
  rintro e w' ⟨rv, rfl, hN, _, hr⟩
  rw [beg_b]
  rw [beg_c] at hr
  obtain ⟨g, cap, rfl, _⟩ := World.ownsRow.form hr (by simp)
  exact ⟨g, cap, rfl, hN, ydp hr (fun _ _ => Nat.zero_le _)⟩
 have C4 : Hid (∀ V, Ne w V w.heap.size (begS n) [] → Calls (twin Tryz.prog pl) 30 #[.pointer (some ⟨w.heap.size, 0, none⟩), .int .i64 1, .string yhd] V fun e w' => e = .returned (.tuple #[.string yxj, .int .i64 0]) ∧ Ne w w' w.heap.size (begS n) [] ∧ Below V.heap.size V w') := fun V hV => by
  refine (eRead hV 1 e3 yhd yoe).mono ?_
  rintro e w' ⟨rfl, hN, hb⟩
  rw [beg_d]
  exact ⟨rfl, hN, hb⟩
 unfold yhd at C2 C3 C4
 unfold yxj at C2 C4
 clear e0 e1 e2 e3 hx
 have eg : ∀ V, (eqGuard .neq 44 (.tmp 55) (.tmp 56) (.agg #[.int .i64 1, .string ⟨#[102, 105, 114, 115, 116]⟩, .int .i64 1]) (.agg #[.int .i64 1, .string ⟨#[102, 105, 114, 115, 116]⟩, .int .i64 1])).run (twin Tryz.prog pl) V = .ok () V := fun V => by kernel_rfl
 go_enter q_func15, Tryz.ntmps14
 go_wp2_with (first
  |(go_at_call 25; refine C1.out.mono ?_; rintro e w1 ⟨rfl, hN1⟩; have N1 := yab hN1; clear hN1)
  |(go_at_call 29; refine (C2.out _ N1.out).mono ?_; rintro e w2 ⟨rfl, hN2⟩; have N2 := yab hN2; clear hN2)
  |(go_at_call 17; refine (C3.out _ N2.out).mono ?_; rintro e w3 ⟨g, cap, rfl, hN3, ho3⟩; have N3 := yab hN3; have O3 := yab ho3; clear hN3 ho3)
  |(go_at_call 30; refine (C4.out _ N3.out).mono ?_; rintro e w4 ⟨rfl, hN4, hb4⟩; have N4 := yab hN4; have O4 := yas O3.out (fun k e => hb4.block k (World.ownsRow.lt O3.out k e).2); have k0 : w4.cell? ⟨g, 0, none⟩ = some (.int .i64 1) := (World.ownsRow.cellAt O4 0 (by decide)); have k1 : w4.cell? ⟨g, 1, none⟩ = some (.string ⟨#[102, 105, 114, 115, 116]⟩) := (World.ownsRow.cellAt O4 1 (by decide)); have k2 : w4.cell? ⟨g, 2, none⟩ = some (.int .i64 1) := (World.ownsRow.cellAt O4 2 (by decide)); clear hN4 hb4 O4))
 go_ret
 exact ⟨rfl, N4.out⟩
end Go.Proofs.K

namespace Go.Proofs.K
open Go.RowKit Go.Sim
theorem q_func16 : (twin Tryz.prog pl).funcs[15]? = some Tryz.f15 := yim Tryz.func15 (by decide) (by kernel_rfl)
@[simp] theorem q_call16 (args : Array Value) (w : World) : (callFunc 15 args).run (twin Tryz.prog pl) w = .ok (.enter 15 args) w := yqp q_func16 (by kernel_rfl) (by kernel_rfl) args w
theorem yrs (ad : Addr) (k : Nat) : (ad.add k).block = ad.block := by unfold Addr.add; split <;> rfl
theorem add_next (ad : Addr) (k j : Nat) (hj : j ≠ 0) : ad.add (k + j) = ⟨(ad.add k).block, (ad.add k).off + j, none⟩ := by
 by_cases hk : k = 0
 ·subst hk
  simp [Addr.add, hj]
 ·simp [Addr.add, hk, hj]
  omega
def inI (c : Int) : Prop := -9223372036854775808 ≤ c ∧ c < 9223372036854775808
structure ygk (w : World) (ad : Addr) (i : Nat) (o : ych) : Prop where
 lt : ad.block < w.heap.size
 c0 : w.cell? (ad.add (i * 5)) = some (.int .i64 o.what)
 c1 : w.cell? (ad.add (i * 5 + 1)) = some (.int .i64 o.r)
 c2 : w.cell? (ad.add (i * 5 + 2)) = some (.int .i64 o.f)
 c3 : w.cell? (ad.add (i * 5 + 3)) = some (.int .i64 o.path)
 c4 : w.cell? (ad.add (i * 5 + 4)) = some (.string o.text)
 r0 : inI o.what
 r1 : inI o.r
 r2 : inI o.f
 r3 : inI o.path
theorem ygk.below {w w' : World} {ad : Addr} {i : Nat} {o : ych} (h : ygk w ad i o) (hb : Below w.heap.size w w') : ygk w' ad i o := by
 have k : ∀ j, w'.cell? (ad.add j) = w.cell? (ad.add j) := fun j => hb.cell (by rw [yrs]; exact h.lt)
 exact ⟨Nat.lt_of_lt_of_le h.lt hb.size, (k _).trans h.c0, (k _).trans h.c1, (k _).trans h.c2, (k _).trans h.c3, (k _).trans h.c4, h.r0, h.r1, h.r2, h.r3⟩
def yye (n : Nat) (S : List RS) (os : Nat → ych) (k : Nat) : List RS := (List.range k).foldl (fun S i => ydd n S (os i)) S
theorem yhh (n : Nat) (S : List RS) (os : Nat → ych) (k : Nat) : yye n S os (k + 1) = ydd n (yye n S os k) (os k) := by
 unfold yye
 rw [List.range_succ, List.foldl_append]
 rfl
theorem yma (n : Nat) (S : List RS) (os : Nat → ych) (k : Nat) : (yye n S os k).length = S.length := by
 induction k with
 |zero => rfl
 |succ k ih => rw [yhh, doStep_len, ih]
theorem yqc {n : Nat} {S : List RS} (hn : 2 ≤ n) (h6 : n ≤ 6) (hS : S.length = n) {B : Int} (h0 : 0 ≤ B) (h : Wf B S) (os : Nat → ych) (k : Nat) (hk : B + k ≤ 1000000000) : Wf (B + k) (yye n S os k) := by
 induction k with
 |zero => exact h.mono (by omega)
 |succ k ih =>
  rw [yhh]
  have := doStep_wf hn h6 (by rw [yma]; exact hS) (B := B + k) (by omega) (by omega) (ih (by omega)) (os k)
  exact this.mono (by omega)
theorem ydr.trans {K : List Nat} {a b c : World} (h : ydr K a b) (h' : ydr K b c) : ydr K a c := fun k hk => (h' k hk).trans (h k hk)
theorem ydr.refl (K : List Nat) (w : World) : ydr K w w := fun _ _ => rfl
theorem Ne.alloc {w0 w : World} {nb : Nat} {S : List RS} {K : List Nat} (h : Ne w0 w nb S K) (cs : Array Value) (t : TypeId) : Ne w0 (w.alloc (.cells cs t)) nb S K ∧ ydr K w (w.alloc (.cells cs t)) :=
 h.more ((Below.refl _ _).alloc (Nat.le_refl _) _) (ybr.alloc h.fix _ _)
section
variable {w0 : World} {nb : Nat} {S : List RS} {K : List Nat} {n : Nat} {o : ych}
theorem st_write (hn : 2 ≤ n) (h6 : n ≤ 6) (hS : S.length = n) {B : Int} (h0 : 0 ≤ B) (hB : B < 1000000000) (hW : Wf B S) (hk : o.W ≤ 2) (V : World) (h : Ne w0 V nb S K) :
  Calls (twin Tryz.prog pl) 29 #[.pointer (some ⟨nb, 0, none⟩), .int .i64 (o.R n), .string o.P, .string (cutT o.text)] V fun e w' => e = .returned (.int .i64 0) ∧ Ne w0 w' nb (ydd n S o) K ∧ ydr K V w' := by
 have hr := o.R_lt hn
 have hx := ybo (S := S) (r := o.R n) (by omega)
 refine (eWrite h (o.R n) hx o.P (cutT o.text) o.P_in (ywj _)).mono ?_
 rintro e w' ⟨rfl, h1, h2⟩
 rw [(wr_wf (hW.at hx) (by omega) h0 hB o.P_in _).1]
 unfold ydd
 rw [if_pos hk]
 exact ⟨rfl, h1, h2⟩
theorem st_remove (hn : 2 ≤ n) (h6 : n ≤ 6) (hS : S.length = n) {B : Int} (h0 : 0 ≤ B) (hB : B < 1000000000) (hW : Wf B S) (hk : o.W = 3) (V : World) (h : Ne w0 V nb S K) :
  Calls (twin Tryz.prog pl) 33 #[.pointer (some ⟨nb, 0, none⟩), .int .i64 (o.R n), .string o.P] V fun e w' => ∃ z : Int, (z = 0 ∨ z = 4) ∧ e = .returned (.int .i64 z) ∧ Ne w0 w' nb (ydd n S o) K ∧ ydr K V w' := by
 have hr := o.R_lt hn
 have hx := ybo (S := S) (r := o.R n) (by omega)
 refine (eRemove h (o.R n) hx o.P o.P_in).mono ?_
 rintro e w' ⟨rfl, h1, h2⟩
 refine ⟨_, (rm_wf (hW.at hx) (by omega) h0 hB o.P_in).1, rfl, ?_, h2⟩
 unfold ydd
 rw [if_neg (by omega), if_pos hk]
 exact h1
theorem st_path (hn : 2 ≤ n) (h6 : n ≤ 6) (hS : S.length = n) {B : Int} (hW : Wf B S) (hk : o.W = 4) (V : World) (h : Ne w0 V nb S K) :
  Calls (twin Tryz.prog pl) 34 #[.pointer (some ⟨nb, 0, none⟩), .int .i64 (o.R n), .int .i64 (o.F n), .string o.P] V fun e w' => ∃ z : Int, e = .returned (.tuple #[.int .i64 z, .int .i64 0]) ∧ Ne w0 w' nb (ydd n S o) K ∧ ydr K V w' := by
 have hr := o.R_lt hn
 have hf := o.F_ok hn
 have hx := ybo (S := S) (r := o.R n) (by omega)
 have hy := ybo (S := S) (r := o.F n) (by omega)
 refine (ePullPath h (o.R n) (o.F n) (by omega) hx hy o.P o.P_in (fun R => (hW.at hx).room R)).mono ?_
 rintro e w' ⟨rfl, h1, h2⟩
 rw [(pp_wf (hW.at hx) o.P_in).1]
 refine ⟨_, rfl, ?_, h2⟩
 unfold ydd
 rw [if_neg (by omega), if_neg (by omega), if_pos hk]
 exact h1
theorem st_pull (hn : 2 ≤ n) (h6 : n ≤ 6) (hS : S.length = n) {B : Int} (h0 : 0 ≤ B) (hW : Wf B S) (hk : o.W = 5 ∨ o.W = 6) (V : World) (h : Ne w0 V nb S K) :
  Calls (twin Tryz.prog pl) 17 #[.pointer (some ⟨nb, 0, none⟩), .int .i64 (o.R n), .int .i64 (o.F n)] V fun e w' => ∃ rv, e = .returned (.tuple #[rv, .int .i64 0]) ∧ Ne w0 w' nb (ydd n S o) K ∧ ydr K V w' := by
 have hr := o.R_lt hn
 have hf := o.F_ok hn
 have hx := ybo (S := S) (r := o.R n) (by omega)
 have hy := ybo (S := S) (r := o.F n) (by omega)
 refine (ePull h (o.R n) (o.F n) (by omega) hx hy).mono ?_
 rintro e w' ⟨rv, rfl, h1, h2, _⟩
 rw [(pl_wf (hW.at hx) (hW.at hy) h0).1]
 refine ⟨_, rfl, ?_, h2⟩
 unfold ydd
 rw [if_neg (by omega), if_neg (by omega), if_neg (by omega), if_pos (by omega)]
 exact h1
theorem st_resolve (hn : 2 ≤ n) (h6 : n ≤ 6) (hS : S.length = n) {B : Int} (h0 : 0 ≤ B) (hB : B < 1000000000) (hW : Wf B S) (hk : o.W = 7) (V : World) (h : Ne w0 V nb S K) :
  Calls (twin Tryz.prog pl) 35 #[.pointer (some ⟨nb, 0, none⟩), .int .i64 (o.R n), .int .i64 (o.F n), .string o.P, .bool o.T] V fun e w' => ∃ z : Int, (z = 0 ∨ z = 4) ∧ e = .returned (.int .i64 z) ∧ Ne w0 w' nb (ydd n S o) K ∧ ydr K V w' := by
 have hr := o.R_lt hn
 have hf := o.F_ok hn
 have hx := ybo (S := S) (r := o.R n) (by omega)
 have hy := ybo (S := S) (r := o.F n) (by omega)
 refine (eResolve h (o.R n) (o.F n) (by omega) hx hy o.P o.P_in o.T (by have := (hW.at hx).hi (o.R n); omega) (fun R => (hW.at hx).room R)).mono ?_
 rintro e w' ⟨rfl, h1, h2⟩
 refine ⟨_, (rs_wf (hW.at hx) (by omega) h0 hB o.P_in o.T).1, rfl, ?_, h2⟩
 unfold ydd
 rw [if_neg (by omega), if_neg (by omega), if_neg (by omega), if_neg (by omega)]
 exact h1
end
theorem yuy {w0 w : World} {nb n : Nat} {S : List RS} {K : List Nat} (h : Ne w0 w nb S K) (hn : 2 ≤ n) (h6 : n ≤ 6) (hS : S.length = n) {B : Int} (h0 : 0 ≤ B) (hB : B ≤ 1000000) (hW : Wf B S) (a : Option Addr) (len cap : Nat) (hlen : len ≤ 4611686018427387904) (os : Nat → ych) (hs : ∀ i, i < len → ∃ ad, a = some ad ∧ ygk w0 ad i (os i)) :
  Calls (twin Tryz.prog pl) 15 #[.pointer (some ⟨nb, 0, none⟩), .int .i64 n, .slice a len cap] w fun e w' => e = .returned (.bool true) ∧ Ne w0 w' nb (yye n S os (min len 100000)) K ∧ ydr K w w' := by
 have HS := yab hs
 have H0 := yab h
 have WF : Hid (∀ k : Nat, k ≤ 100000 → Wf (B + k) (yye n S os k)) := fun k hk => yqc hn h6 hS h0 hW os k (by omega)
 have LN : Hid (∀ k, (yye n S os k).length = n) := fun k => by unfold Hid at *; rw [yma]; exact hS
 clear hs h hW
 go_enter q_func16, Tryz.ntmps15
 go_wp2_with fail
 go_loopw [7] (fun iv wr => ∃ i : Nat, i ≤ len ∧ i ≤ 100000 ∧ iv = .int .i64 i ∧ Hid (Ne w0 wr nb (yye n S os i) K) ∧ Hid (ydr K w wr)) (fun iv _ => len - (intOf iv).toNat)
 case atStart => exact ⟨0, Nat.zero_le _, Nat.zero_le _, rfl, H0, ydr.refl K w⟩
 case round =>
  clear H0
  obtain ⟨i, hi, hi', rfl, hN, hK⟩ := hrel
  by_cases hlt : i < len
  ·by_cases hlt' : i < 100000
   ·obtain ⟨ad, rfl, hO⟩ := HS.out i hlt
    obtain ⟨_, c0, c1, c2, c3, c4, r0, r1, r2, r3⟩ := hO.below hN.out.bel
    rw [add_next _ _ _ (by decide)] at c1 c2 c3 c4
    have hWi := WF.out i hi'
    have hLi := LN.out i
    have HR := yab (yhh n S os i)
    have d1 : decide ((i : Int) < (len : Int)) = true := by simp; omega
    have d2 : decide ((i : Int) < (100000 : Int)) = true := by simp; omega
    generalize os i = o at *
    generalize yye n S os i = Si at *
    generalize hSj : yye n S os (i + 1) = Sj at *
    have HJ := yab hSj
    clear hSj
    have hr := o.R_lt hn
    have hf := o.F_ok hn
    have PR : Hid (∀ V, Calls (twin Tryz.prog pl) 13 #[.int .i64 o.r, .int .i64 n] V fun e w' => e = .returned (.int .i64 (o.R n)) ∧ w' = V) := fun V => by
     have := qpick o.r n r1 (by omega) V
     have e : ((o.R n : Nat) : Int) = yfh o.r n := by unfold ych.R; have := yel o.r n (by omega); omega
     rw [e]; exact this
    have PF : Hid (∀ V, Calls (twin Tryz.prog pl) 16 #[.int .i64 (o.R n), .int .i64 o.f, .int .i64 n] V fun e w' => e = .returned (.int .i64 (o.F n)) ∧ w' = V) := fun V => by
     have := qother (o.R n) n o.f hr ⟨hn, h6⟩ r2 V
     have e : ((o.F n : Nat) : Int) = yns (o.R n) o.f n := by unfold ych.F; have := ypq (o.R n) n o.f hr hn; omega
     rw [e]; exact this
    have hp8 := yel o.path 8 (by decide)
    have PP : Hid (∀ V, Calls (twin Tryz.prog pl) 13 #[.int .i64 o.path, .int .i64 8] V fun e w' => e = .returned (.int .i64 ((yfh o.path 8).toNat : Nat)) ∧ w' = V) := fun V => by
     have := qpick o.path 8 r3 (by decide) V
     rw [Int.toNat_of_nonneg hp8.1]; exact this
    have PT : Hid (∀ V, Calls (twin Tryz.prog pl) 31 #[.int .i64 ((yfh o.path 8).toNat : Nat)] V fun e w' => e = .returned (.string o.P) ∧ w' = V) := fun V => qpath _ (by omega) V
    have hw8 := yel o.what 8 (by decide)
    have PW : Hid (∀ V, Calls (twin Tryz.prog pl) 13 #[.int .i64 o.what, .int .i64 8] V fun e w' => e = .returned (.int .i64 (o.W : Nat)) ∧ w' = V) := fun V => by
     have := qpick o.what 8 r0 (by decide) V
     unfold ych.W
     rw [Int.toNat_of_nonneg hw8.1]; exact this
    have PK : Hid (∀ V, Calls (twin Tryz.prog pl) 13 #[.int .i64 o.f, .int .i64 2] V fun e w' => e = .returned (.int .i64 (yfh o.f 2)) ∧ w' = V) := fun V => qpick o.f 2 r2 (by decide) V
    have hW7 : o.W < 8 := by unfold ych.W; omega
    have HN : Hid (∀ cs t, Ne w0 (wr.alloc (.cells cs t)) nb Si K ∧ ydr K w (wr.alloc (.cells cs t))) := fun cs t => ⟨(hN.out.alloc cs t).1, hK.out.trans (hN.out.alloc cs t).2⟩
    have SW : Hid (o.W ≤ 2 → ∀ V, Ne w0 V nb Si K → _) := fun hk V hV => st_write (o := o) hn h6 hLi (by omega) (by omega) hWi hk V hV
    have SR : Hid (o.W = 3 → ∀ V, Ne w0 V nb Si K → _) := fun hk V hV => st_remove (o := o) hn h6 hLi (by omega) (by omega) hWi hk V hV
    have SP : Hid (o.W = 4 → ∀ V, Ne w0 V nb Si K → _) := fun hk V hV => st_path (o := o) hn h6 hLi hWi hk V hV
    have SL : Hid (o.W = 5 ∨ o.W = 6 → ∀ V, Ne w0 V nb Si K → _) := fun hk V hV => st_pull (o := o) hn h6 hLi (by omega) hWi hk V hV
    have SV : Hid (o.W = 7 → ∀ V, Ne w0 V nb Si K → _) := fun hk V hV => st_resolve (o := o) hn h6 hLi (by omega) (by omega) hWi hk V hV
    rw [← HR.out] at SW SR SP SL SV
    unfold ych.T at SV
    have hq2 := yel o.f 2 (by decide)
    generalize yfh o.f 2 = q2 at *
    generalize (yfh o.path 8).toNat = kp at *
    generalize o.P = pp at *
    generalize o.R n = rr at *
    generalize o.F n = ff at *
    clear hO hWi hLi HR r0 r1 r2 r3 hp8 hw8
    have CU := yab (qcut o.text)
    generalize cutT o.text = ct at *
    generalize hoW : o.W = kw at *
    clear hoW
    match kw, hW7 with
    |0, _ | 1, _ | 2, _ =>
     go_wp2_with (first
      |(go_at_call_of 13 (Value.int .i64 o.r); refine (PR.out _).mono ?_; rintro e wz ⟨rfl, rfl⟩)
      |(go_at_call_of 13 (Value.int .i64 o.path); refine (PP.out _).mono ?_; rintro e wz ⟨rfl, rfl⟩)
      |(go_at_call_of 13 (Value.int .i64 o.what); refine (PW.out _).mono ?_; rintro e wz ⟨rfl, rfl⟩)
      |(go_at_call_of 13 (Value.int .i64 o.f); refine (PK.out _).mono ?_; rintro e wz ⟨rfl, rfl⟩)
      |(go_at_call 16; refine (PF.out _).mono ?_; rintro e wz ⟨rfl, rfl⟩)
      |(go_at_call 31; refine (PT.out _).mono ?_; rintro e wz ⟨rfl, rfl⟩)
      |(go_at_call 32; refine (CU.out _).mono ?_; rintro e wz ⟨rfl, rfl⟩)
      |(go_at_call 29; refine (SW.out (by decide) _ (HN.out _ _).1).mono ?_; rintro e w5 ⟨rfl, hN5, hK5⟩; have N5 := yab hN5; have K5 := yab hK5; clear hN5 hK5))
     go_roundw
     case rel => exact ⟨i + 1, by omega, by omega, by go_num, (by rw [HJ.out]; exact N5), (HN.out _ _).2.trans K5.out⟩
     case measure => simp [intOf]; omega
    |3, _ =>
     have SR2 : Hid (∀ V, Ne w0 V nb Si K → Calls (twin Tryz.prog pl) 33 #[.pointer (some ⟨nb, 0, none⟩), .int .i64 rr, .string pp] V fun e w' => ∃ z : Int, (z = 0 ∨ z = 4) ∧ e = .returned (.int .i64 z) ∧ Ne w0 w' nb Sj K ∧ ydr K V w') := SR.out rfl
     go_wp2_with (first
      |(go_at_call_of 13 (Value.int .i64 o.r); refine (PR.out _).mono ?_; rintro e wz ⟨rfl, rfl⟩)
      |(go_at_call_of 13 (Value.int .i64 o.path); refine (PP.out _).mono ?_; rintro e wz ⟨rfl, rfl⟩)
      |(go_at_call_of 13 (Value.int .i64 o.what); refine (PW.out _).mono ?_; rintro e wz ⟨rfl, rfl⟩)
      |(go_at_call_of 13 (Value.int .i64 o.f); refine (PK.out _).mono ?_; rintro e wz ⟨rfl, rfl⟩)
      |(go_at_call 16; refine (PF.out _).mono ?_; rintro e wz ⟨rfl, rfl⟩)
      |(go_at_call 31; refine (PT.out _).mono ?_; rintro e wz ⟨rfl, rfl⟩)
      |(go_at_call 32; refine (CU.out _).mono ?_; rintro e wz ⟨rfl, rfl⟩)
      |(go_at_call 33; refine (SR2.out _ (HN.out _ _).1).mono ?_; rintro e w5 ⟨z5, hz5, rfl, hN5, hK5⟩; have N5 := yab hN5; have K5 := yab hK5; have hz5' : z5 = 0 ∨ z5 = 4 := hz5; clear hN5 hK5; rcases hz5' with rfl | rfl))
     all_goals
      go_roundw
      case rel => exact ⟨i + 1, by omega, by omega, by go_num, (by rw [HJ.out]; exact N5), (HN.out _ _).2.trans K5.out⟩
      case measure => simp [intOf]; omega
    |4, _ =>
     go_wp2_with (first
      |(go_at_call_of 13 (Value.int .i64 o.r); refine (PR.out _).mono ?_; rintro e wz ⟨rfl, rfl⟩)
      |(go_at_call_of 13 (Value.int .i64 o.path); refine (PP.out _).mono ?_; rintro e wz ⟨rfl, rfl⟩)
      |(go_at_call_of 13 (Value.int .i64 o.what); refine (PW.out _).mono ?_; rintro e wz ⟨rfl, rfl⟩)
      |(go_at_call_of 13 (Value.int .i64 o.f); refine (PK.out _).mono ?_; rintro e wz ⟨rfl, rfl⟩)
      |(go_at_call 16; refine (PF.out _).mono ?_; rintro e wz ⟨rfl, rfl⟩)
      |(go_at_call 31; refine (PT.out _).mono ?_; rintro e wz ⟨rfl, rfl⟩)
      |(go_at_call 32; refine (CU.out _).mono ?_; rintro e wz ⟨rfl, rfl⟩)
      |(go_at_call 34; refine (SP.out (by trivial) _ (HN.out _ _).1).mono ?_; rintro e w5 ⟨z5, rfl, hN5, hK5⟩; have N5 := yab hN5; have K5 := yab hK5; clear hN5 hK5))
     go_roundw
     case rel => exact ⟨i + 1, by omega, by omega, by go_num, (by rw [HJ.out]; exact N5), (HN.out _ _).2.trans K5.out⟩
     case measure => simp [intOf]; omega
    |5, _ | 6, _ =>
     go_wp2_with (first
      |(go_at_call_of 13 (Value.int .i64 o.r); refine (PR.out _).mono ?_; rintro e wz ⟨rfl, rfl⟩)
      |(go_at_call_of 13 (Value.int .i64 o.path); refine (PP.out _).mono ?_; rintro e wz ⟨rfl, rfl⟩)
      |(go_at_call_of 13 (Value.int .i64 o.what); refine (PW.out _).mono ?_; rintro e wz ⟨rfl, rfl⟩)
      |(go_at_call_of 13 (Value.int .i64 o.f); refine (PK.out _).mono ?_; rintro e wz ⟨rfl, rfl⟩)
      |(go_at_call 16; refine (PF.out _).mono ?_; rintro e wz ⟨rfl, rfl⟩)
      |(go_at_call 31; refine (PT.out _).mono ?_; rintro e wz ⟨rfl, rfl⟩)
      |(go_at_call 32; refine (CU.out _).mono ?_; rintro e wz ⟨rfl, rfl⟩)
      |(go_at_call 17; refine (SL.out (by decide) _ (HN.out _ _).1).mono ?_; rintro e w5 ⟨z5, rfl, hN5, hK5⟩; have N5 := yab hN5; have K5 := yab hK5; clear hN5 hK5))
     go_roundw
     case rel => exact ⟨i + 1, by omega, by omega, by go_num, (by rw [HJ.out]; exact N5), (HN.out _ _).2.trans K5.out⟩
     case measure => simp [intOf]; omega
    |7, _ =>
     rcases (by omega : q2 = 0 ∨ q2 = 1) with rfl | rfl
     all_goals
      go_wp2_with (first
       |(go_at_call_of 13 (Value.int .i64 o.r); refine (PR.out _).mono ?_; rintro e wz ⟨rfl, rfl⟩)
       |(go_at_call_of 13 (Value.int .i64 o.path); refine (PP.out _).mono ?_; rintro e wz ⟨rfl, rfl⟩)
       |(go_at_call_of 13 (Value.int .i64 o.what); refine (PW.out _).mono ?_; rintro e wz ⟨rfl, rfl⟩)
       |(go_at_call_of 13 (Value.int .i64 o.f); refine (PK.out _).mono ?_; rintro e wz ⟨rfl, rfl⟩)
       |(go_at_call 16; refine (PF.out _).mono ?_; rintro e wz ⟨rfl, rfl⟩)
       |(go_at_call 31; refine (PT.out _).mono ?_; rintro e wz ⟨rfl, rfl⟩)
       |(go_at_call 32; refine (CU.out _).mono ?_; rintro e wz ⟨rfl, rfl⟩)
       |(go_at_call 35; refine (SV.out (by trivial) _ (HN.out _ _).1).mono ?_; rintro e w5 ⟨z5, hz5, rfl, hN5, hK5⟩; have N5 := yab hN5; have K5 := yab hK5; have hz5' : z5 = 0 ∨ z5 = 4 := hz5; clear hN5 hK5; rcases hz5' with rfl | rfl))
      all_goals
       go_roundw
       case rel => exact ⟨i + 1, by omega, by omega, by go_num, (by rw [HJ.out]; exact N5), (HN.out _ _).2.trans K5.out⟩
       case measure => simp [intOf]; omega
   ·have ei : i = 100000 := by omega
    subst ei
    have em : min len 100000 = 100000 := by omega
    have d1 : decide (((100000 : Nat) : Int) < (len : Int)) = true := by simp; omega
    go_wp2
    go_ret
    rw [em]
    exact ⟨rfl, hN.out, hK.out⟩
  ·have ei : i = len := by omega
   subst ei
   have em : min i 100000 = i := by omega
   have d1 : decide ((i : Int) < (i : Int)) = false := by simp
   go_wp2
   go_ret
   rw [em]
   exact ⟨rfl, hN.out, hK.out⟩
end Go.Proofs.K

namespace Go.Proofs.K
open Go.RowKit Go.Sim
open Classical
variable {n : Nat} {S : List RS} {B : Int}
theorem vs_step (hn : 2 ≤ n) (h6 : n ≤ 6) (hS : S.length = n) (h0 : 0 ≤ B) (hW : Wf B S) (h : VS S) (o : ych) : VS (ydd n S o) := by
 have hr := o.R_lt hn
 have hf := o.F_ok hn
 have hl : S.length ≤ 6 := by omega
 have hr' : o.R n < S.length := by omega
 have hf' : o.F n < S.length := by omega
 unfold ydd
 split
 ·exact vs_write hl h hW hr' _ _ (ywj _)
 ·split
  ·exact vs_remove hl h hW hr' _
  ·split
   ·exact vs_path h hW hr' hf' _
   ·split
    ·exact vs_pull h h0 hW hr' hf'
    ·exact vs_resolve hl h hW hr' hf' _ _
theorem yup (n i : Nat) : (ykw n).getD i rs0 = rs0 := by
 unfold ykw
 rw [List.getD_eq_getElem?_getD, List.getElem?_replicate]
 split <;> rfl
theorem newS_vs (n : Nat) : VS (ykw n) := by
 intro j hj
 have hc : ∀ i, CS (ykw n) i = 0 := fun i => by unfold CS; rw [yup]; rfl
 rw [yup]
 refine ⟨fun i => Int.le_refl 0, fun i => ?_, ?_, fun p => ?_, fun p R hp => ?_⟩
 ·rw [hc]; exact Int.le_refl 0
 ·rw [hc]; rfl
 ·exact Vr.empty (by omega) (fun i => Int.le_refl 0) (fun i => by rw [hc]; exact Int.le_refl 0)
 ·simp [rs0, ybh] at hp
theorem newS_w0 (n : Nat) : Wf 0 (ykw n) := fun s hs => by
 obtain ⟨_, rfl⟩ := List.mem_replicate.1 hs
 exact ⟨List.Pairwise.nil, fun x hx => by simp at hx, fun i => Int.le_refl 0, fun i => Int.le_refl 0⟩
theorem begS_vs (hn : 2 ≤ n) (h6 : n ≤ 6) : VS (begS n) := by
 have hl : (ykw n).length = n := by simp [ykw]
 have h1 := vs_write (by omega) (newS_vs n) (newS_w0 n) (r := 0) (by omega) yhd yxj (by decide)
 rw [yup] at h1
 have hw : Wf 1 ((ykw n).set 0 beg0) := by
  have z0 : Wf1 0 yqv := ⟨List.Pairwise.nil, fun x hx => by simp [yqv] at hx, fun i => Int.le_refl 0, fun i => Int.le_refl 0⟩
  exact ((newS_w0 n).mono (by decide)).set 0 (wr_wf z0 (by decide) (by decide) (by decide) yoe _).2
 have h2 := vs_pull h1 (by decide) hw (r := 1) (f := 0) (by rw [List.length_set]; omega) (by rw [List.length_set]; omega)
 rw [yfw (by decide), yup, ydv (by omega)] at h2
 exact h2
theorem runS_vs (hn : 2 ≤ n) (h6 : n ≤ 6) (hS : S.length = n) (h0 : 0 ≤ B) (h : Wf B S) (hI : VS S) (os : Nat → ych) (k : Nat) (hk : B + k ≤ 1000000000) : VS (yye n S os k) := by
 induction k with
 |zero => exact hI
 |succ k ih =>
  rw [yhh]
  exact vs_step hn h6 (by rw [yma]; exact hS) (B := B + k) (by omega) (yqc hn h6 hS h0 h os k (by omega)) (ih (by omega)) (os k)
end Go.Proofs.K

namespace Go.Proofs.K
open Go.RowKit Go.Lib Go.Sim
theorem ylp {n : Nat} {k : Nat → Int} (h0 : ∀ i, 0 ≤ k i) (hz : ∀ i, n ≤ i → k i = 0) : lfn ((List.range n).map (fun i => (k i).toNat)) = k := by
 funext j
 unfold lfn
 rw [List.getD_eq_getElem?_getD, List.getElem?_map]
 by_cases h : j < n
 ·rw [List.getElem?_range h]
  have := h0 j
  simp
  omega
 ·rw [List.getElem?_eq_none (by simp; omega), hz j (by omega)]
  rfl
def dsO (n : Nat) (R : Rec) : DS := ⟨(List.range n).map (fun i => (R.kn i).toNat), decide (0 < R.bn), R.br.toNat, R.bn.toNat, (List.range n).map (fun i => (R.ch i).toNat), bs R.text⟩
def drO (n j : Nat) (s : RS) : DR := ⟨(List.range n).map (fun i => (s.cm i).toNat), s.E.map (fun x => (x.1, dsO n (ybk j s.cm (some x.2))))⟩
def yfe (S : List RS) : List DR := (List.range S.length).map (fun j => drO S.length j (S.getD j rs0))
section
variable {n : Nat} {C : Nat → Int} {R : Rec}
theorem dsO_ok (h : Vr n C R) (hB : ∀ i, C i ≤ 1000000000) : (dsO n R).ok n := by
 obtain ⟨b, hb, hbr, hbn⟩ := h.br
 have c1 := h.chK b
 have c2 := h.knC b
 have c3 := hB b
 have c4 := h.bn0
 refine ⟨by simp [dsO], fun v hv => ?_, fun _ => ⟨?_, ?_, by simp [dsO], fun v hv => ?_, ?_⟩, fun ht => ?_⟩
 ·obtain ⟨i, _, rfl⟩ := List.mem_map.1 hv
  have := h.knC i
  have := hB i
  omega
 ·show R.br.toNat < n
  rw [hbr]
  simpa using hb
 ·show R.bn.toNat ≤ 1000000000
  omega
 ·obtain ⟨i, _, rfl⟩ := List.mem_map.1 hv
  have := h.chK i
  have := h.knC i
  have := hB i
  omega
 ·show (bs R.text).length ≤ 60
  rw [yax]
  exact h.txt
 ·have hn : ¬ 0 < R.bn := by simpa [dsO] using ht
  obtain ⟨e1, e2, e3⟩ := h.none hn
  refine ⟨?_, ?_, ?_, ?_⟩
  ·show R.br.toNat = 0
   rw [e2]; rfl
  ·show R.bn.toNat = 0
   omega
  ·show (List.range n).map (fun i => (R.ch i).toNat) = List.replicate n 0
   rw [e3]
   apply List.ext_getElem
   ·simp
   ·intro i h1 h2
    simp
  ·show bs R.text = []
   rw [e1]; rfl
theorem dsO_rec (h : Vr n C R) (hC : ∀ i, n ≤ i → C i = 0) : ybl (dsO n R) = R := by
 obtain ⟨b, hb, hbr, hbn⟩ := h.br
 have k0 : ∀ i, n ≤ i → R.kn i = 0 := fun i hi => by have := h.knC i; have := h.kn0 i; have := hC i hi; omega
 have c0 : ∀ i, n ≤ i → R.ch i = 0 := fun i hi => by have := h.chK i; have := h.ch0 i; have := k0 i hi; omega
 have e1 := ylp h.kn0 k0
 have e2 := ylp h.ch0 c0
 have e3 : (R.br.toNat : Int) = R.br := by rw [hbr]; rfl
 have e4 : (R.bn.toNat : Int) = R.bn := by have := h.bn0; omega
 have e5 : yaf (bs R.text) = R.text := ygw (yah _)
 unfold ybl dsO
 simp only
 rw [e1, e2, e3, e4, e5]
theorem dsO_born (h : Vr n C R) : (dsO n R).born := by
 intro ht
 have hp : 0 < R.bn := by simpa [dsO] using ht
 obtain ⟨b, hb, hbr, hbn⟩ := h.br
 refine ⟨?_, ?_⟩
 ·show 1 ≤ R.bn.toNat
  omega
 ·show R.bn.toNat ≤ ((List.range n).map (fun i => (R.ch i).toNat)).getD R.br.toNat 0
  have e : R.br.toNat = b := by rw [hbr]; rfl
  rw [e, List.getD_eq_getElem?_getD, List.getElem?_map, List.getElem?_range hb]
  simp
  omega
end
theorem yuo {S : List RS} {i : Nat} {d : DR} (h : (yfe S)[i]? = some d) : i < S.length ∧ d = drO S.length i (S.getD i rs0) := by
 unfold yfe at h
 rw [List.getElem?_map] at h
 by_cases hi : i < S.length
 ·rw [List.getElem?_range hi] at h
  simp only [Option.map_some, Option.some.injEq] at h
  exact ⟨hi, h.symm⟩
 ·rw [List.getElem?_eq_none (by simp; omega)] at h
  cases h
theorem yhz (S : List RS) : (yfe S).length = S.length := by simp [yfe]
section
variable {S : List RS} {B : Int}
theorem yoo (hV : VS S) (hW : Wf B S) : Tells S (yfe S) := by
 refine ⟨(yhz S).symm, fun i s d hs hd => ?_⟩
 obtain ⟨hi, rfl⟩ := yuo hd
 have es : S.getD i rs0 = s := by rw [List.getD_eq_getElem?_getD, hs]; rfl
 have hv := hV i hi
 rw [es] at hv ⊢
 have w1 := hW.at hs
 have hx : ∀ x ∈ s.E, Vr S.length (CS S) (ybk i s.cm (some x.2)) := fun x hx => by
  have := hv.vw x.1
  rw [ydj w1.ris (R := x.2) hx] at this
  exact this
 refine ⟨ylp hv.cm0 (fun j hj => ?_), ?_, fun y hy => ?_, fun y hy => ?_⟩
 ·have h1 := hv.cmC j
  rw [yoq hj] at h1
  have := hv.cm0 j
  omega
 ·show s.E.map (fun z : ByteArray × Rec => z.1) = (s.E.map (fun x => (x.1, dsO S.length (ybk i s.cm (some x.2))))).map (fun z : ByteArray × DS => z.1)
  rw [List.map_map]
  rfl
 ·obtain ⟨x, hx', rfl⟩ := List.mem_map.1 hy
  show ybk i s.cm (ybh x.1 s.E) = ybl (dsO S.length (ybk i s.cm (some x.2)))
  rw [dsO_rec (hx x hx') (fun j hj => yoq hj), ydj w1.ris (R := x.2) hx']
 ·obtain ⟨x, hx', rfl⟩ := List.mem_map.1 hy
  exact dsO_born (hx x hx')
theorem yut (hV : VS S) (hW : Wf B S) (hB : B ≤ 1000000000) (h0 : 0 ≤ B) (h1 : 1 ≤ S.length) (h6 : S.length ≤ 6) : okNet (yfe S) := by
 have hC : ∀ i, CS S i ≤ 1000000000 := fun i => by
  by_cases hi : i < S.length
  ·have := (hW.at (List.getElem?_eq_getElem hi)).hi i
   unfold CS
   rw [List.getD_eq_getElem?_getD, List.getElem?_eq_getElem hi]
   simp only [Option.getD_some]
   omega
  ·rw [yoq (by omega)]; omega
 refine ⟨by rw [yhz]; exact h1, by rw [yhz]; exact h6, fun d hd => ?_⟩
 obtain ⟨i, hi, e⟩ := List.getElem_of_mem hd
 obtain ⟨hi2, rfl⟩ := yuo (d := d) (i := i) (by rw [List.getElem?_eq_getElem hi, e])
 rw [yhz]
 have hs := List.getElem?_eq_getElem hi2
 have es : S.getD i rs0 = S[i] := by rw [List.getD_eq_getElem?_getD, hs]; rfl
 have hv := hV i hi2
 rw [es] at hv ⊢
 have w1 := hW.at hs
 generalize S[i] = s at *
 have hx : ∀ x ∈ s.E, Vr S.length (CS S) (ybk i s.cm (some x.2)) := fun x hx => by
  have := hv.vw x.1
  rw [ydj w1.ris (R := x.2) hx] at this
  exact this
 refine ⟨by simp [drO], fun v hv' => ?_, ⟨fun r hr => ?_, fun r hr => ?_, ?_⟩⟩
 ·obtain ⟨j, _, rfl⟩ := List.mem_map.1 hv'
  have := hv.cmC j
  have := hC j
  omega
 ·obtain ⟨x, hx', rfl⟩ := List.mem_map.1 hr
  exact (ygj x.1 (w1.kin x hx')).1
 ·obtain ⟨x, hx', rfl⟩ := List.mem_map.1 hr
  exact dsO_ok (hx x hx') hC
 ·show (s.E.map _).Pairwise _
  rw [List.pairwise_map]
  exact w1.ris
theorem yok (hW : Wf B S) : ∀ d ∈ yfe S, d.recs.length ≤ 10 := fun d hd => by
 obtain ⟨i, hi, e⟩ := List.getElem_of_mem hd
 obtain ⟨hi2, rfl⟩ := yuo (d := d) (i := i) (by rw [List.getElem?_eq_getElem hi, e])
 have hs := List.getElem?_eq_getElem hi2
 have es : S.getD i rs0 = S[i] := by rw [List.getD_eq_getElem?_getD, hs]; rfl
 rw [es]
 show (S[i].E.map _).length ≤ 10
 rw [List.length_map]
 exact (hW.at hs).len
end
theorem dsT_len {n : Nat} {d : DS} (h : d.ok n) (h6 : n ≤ 6) : d.T.length ≤ 1000 := by
 have t1 := ygg d.known h.kb
 rw [h.kl] at t1
 unfold DS.T
 cases ht : d.there with
 |true =>
  obtain ⟨y1, y2, y3, y4, y5⟩ := h.yes ht
  have t2 := yda 10 d.by_ (Nat.lt_of_lt_of_le (by omega : d.by_ < 1000000000) (by decide))
  have t3 := yda 10 d.num (Nat.lt_of_le_of_lt y2 (by decide))
  have t4 := ygg d.chg y4
  rw [y3] at t4
  have t5 := yhw d.text
  simp [DS.tail]
  omega
 |false =>
  simp
  omega
theorem drsT_len {n : Nat} (h6 : n ≤ 6) : ∀ {D : Drs}, okDrs n D → (ylj D).length ≤ D.length * 1012
 |[], _ => Nat.zero_le _
 |(p, d) :: D, h => by
  have ih := drsT_len h6 (D := D) ⟨fun r hr => h.paths r (List.mem_cons_of_mem _ hr), fun r hr => h.oks r (List.mem_cons_of_mem _ hr), (List.pairwise_cons.1 h.rise).2⟩
  have h1 := h.paths (p, d) (List.mem_cons_self ..)
  have hp : p.size ≤ 12 := by unfold ybm at h1; simp only [Bool.and_eq_true, decide_eq_true_eq] at h1; omega
  have h2 := dsT_len (h.oks (p, d) (List.mem_cons_self ..)) h6
  have e : ylj ((p, d) :: D) = bs p ++ (d.T ++ ylj D) := by simp [ylj]
  rw [e, List.length_append, List.length_append, yax, List.length_cons]
  simp only at h2
  omega
theorem ymo {m : List DR} (hm : okNet m) (hr : ∀ d ∈ m, d.recs.length ≤ 10) : (ydz m).length ≤ 1000000 := by
 have h6 := hm.n6
 have key : ∀ l : List DR, (∀ d ∈ l, d ∈ m) → (yep l).length ≤ l.length * 20000 := by
  intro l
  induction l with
  |nil => intro _; simp [yep]
  |cons d l ih =>
   intro hl
   have i1 := ih (fun x hx => hl x (List.mem_cons_of_mem _ hx))
   have hd := hl d (List.mem_cons_self ..)
   have ho := hm.oks d hd
   have t1 := ygg d.com ho.cb
   rw [ho.cl] at t1
   have t2 := drsT_len h6 ho.recs
   have t3 := hr d hd
   have t4 : (bs ydh).length = 8 := rfl
   have e : yep (d :: l) = d.T ++ yep l := by simp [yep]
   have e2 : d.T.length ≤ 20000 := by
    unfold DR.T
    simp only [List.length_append, List.length_cons, t4]
    omega
   rw [e, List.length_append, List.length_cons]
   omega
 have k := key m (fun d h => h)
 have t1 := yda 10 m.length (Nat.lt_of_le_of_lt h6 (by decide))
 have t2 : (bs yao).length = 8 := rfl
 unfold ydz
 simp only [List.length_append, List.length_cons, t2]
 omega
theorem yrv {m : List DR} (hm : okNet m) (hr : ∀ d ∈ m, d.recs.length ≤ 10) : (ydz m).length ≤ 10000000 := Nat.le_trans (ymo hm hr) (by decide)
end Go.Proofs.K

namespace Go.Proofs.K
open Go.RowKit Go.Sim
variable {i j n : Nat} {u v x y : RS} {S T : List RS} {B : Int}
def nf (j : Nat) (cm : Nat → Int) (E : yau) : yau := E.map (fun e => (e.1, ybk j cm (some e.2)))
structure St (j : Nat) (x y : RS) : Prop where
 cm : x.cm = y.cm
 eq : nf j x.cm x.E = nf j y.cm y.E
theorem St.refl (j : Nat) (x : RS) : St j x x := ⟨rfl, rfl⟩
theorem upT_upT (k : Nat → Int) (j : Nat) (a b : Int) : upT (upT k j a) j b = upT k j b := by
 funext i
 unfold upT
 split <;> rfl
theorem ysq (j : Nat) (cm cm' : Nat → Int) (R : Rec) : ybk j cm' (some (ybk j cm (some R))) = ybk j cm' (some R) := by
 simp only [ybk, upT_upT]
theorem nf_nf (j : Nat) (cm cm' : Nat → Int) (E : yau) : nf j cm' (nf j cm E) = nf j cm' E := by
 unfold nf
 rw [List.map_map]
 exact List.map_congr_left fun e _ => by simp only [Function.comp, ysq]
theorem nf_any {cm : Nat → Int} {E E' : yau} (h : nf j cm E = nf j cm E') (cm' : Nat → Int) : nf j cm' E = nf j cm' E' := by
 rw [← nf_nf j cm cm' E, h, nf_nf]
theorem nf_get (j : Nat) (cm : Nat → Int) (E : yau) (p : ByteArray) : ybh p (nf j cm E) = (ybh p E).map (fun R => ybk j cm (some R)) := by
 unfold ybh nf
 induction E with
 |nil => rfl
 |cons e E ih =>
  rw [List.map_cons, List.find?_cons, List.find?_cons]
  simp only
  cases seq e.1 p with
  |true => rfl
  |false => exact ih
theorem nf_view (j : Nat) (cm : Nat → Int) (E : yau) (p : ByteArray) : ybk j cm (ybh p (nf j cm E)) = ybk j cm (ybh p E) := by
 rw [nf_get]
 cases ybh p E with
 |none => rfl
 |some R => exact ysq j cm cm R
theorem nf_keys (j : Nat) (cm : Nat → Int) (E : yau) : (nf j cm E).map (fun e : ByteArray × Rec => e.1) = E.map (fun e : ByteArray × Rec => e.1) := by
 unfold nf
 rw [List.map_map]
 rfl
theorem yls (j : Nat) (cm : Nat → Int) (E : yau) (q : ByteArray → Bool) : nf j cm (E.filter (fun x => q x.1)) = (nf j cm E).filter (fun x => q x.1) := by
 unfold nf
 rw [List.filter_map]
 rfl
theorem nf_put (j : Nat) (cm : Nat → Int) (E : yau) (p : ByteArray) (R : Rec) : nf j cm (yoj p R E) = yoj p (ybk j cm (some R)) (nf j cm E) := by
 unfold yoj
 rw [← yls j cm E (fun q => slt q p), ← yls j cm E (fun q => slt p q)]
 unfold nf
 rw [List.map_append, List.map_cons]
theorem nf_del (j : Nat) (cm : Nat → Int) (E : yau) (p : ByteArray) : nf j cm (yyz p E) = yyz p (nf j cm E) := by
 unfold yyz
 rw [← yls j cm E (fun q => slt q p), ← yls j cm E (fun q => slt p q)]
 unfold nf
 rw [List.map_append]
theorem nf_there (j : Nat) (cm : Nat → Int) (E : yau) : (ybw (nf j cm E)).length = (ybw E).length := by
 unfold ybw nf
 rw [List.filter_map, List.length_map]
 rfl
theorem St.view (h : St j x y) (p : ByteArray) : ybk j x.cm (ybh p x.E) = ybk j y.cm (ybh p y.E) := by
 rw [← nf_view j x.cm x.E p, h.eq, h.cm, nf_view]
theorem St.keys (h : St j x y) : x.E.map (fun e : ByteArray × Rec => e.1) = y.E.map (fun e : ByteArray × Rec => e.1) := by
 rw [← nf_keys j x.cm x.E, h.eq, nf_keys]
theorem St.room (h : St j x y) (R : Rec) : noRoom R x.E = noRoom R y.E := by
 unfold noRoom
 rw [← nf_there j x.cm x.E, h.eq, nf_there]
theorem St.keep (h : St j x y) (cm' : Nat → Int) (p : ByteArray) (R : Rec) : St j ⟨cm', yce cm' p R x.E⟩ ⟨cm', yce cm' p R y.E⟩ := by
 have hn := h.eq
 rw [← h.cm] at hn
 have hc := nf_any hn cm'
 refine ⟨rfl, ?_⟩
 show nf j cm' (yce cm' p R x.E) = nf j cm' (yce cm' p R y.E)
 unfold yce
 split
 ·rw [nf_put, nf_put, hc]
 ·rw [nf_del, nf_del, hc]
theorem st_wr (h : St j x y) (p t : ByteArray) : St j (wrR j x p t).2 (wrR j y p t).2 := by
 unfold wrR
 rw [h.view p, h.room, h.cm]
 split
 ·exact h
 ·exact h.keep _ _ _
theorem st_rm (h : St j x y) (p : ByteArray) : St j (rmR j x p).2 (rmR j y p).2 := by
 unfold rmR
 rw [h.view p, h.cm]
 split
 ·exact h
 ·split
  ·exact h
  ·exact h.keep _ _ _
theorem st_pp (h : St j x y) (g : St i u v) (p : ByteArray) : St j (ppR j x i u p).2.2 (ppR j y i v p).2.2 := by
 unfold ppR
 rw [h.view p, g.view p, h.room]
 split
 ·exact h
 ·rw [h.cm]
  exact h.keep _ _ _
theorem st_rs (h : St j x y) (g : St i u v) (p : ByteArray) (th : Bool) : St j (rsR j x i u p th).2 (rsR j y i v p th).2 := by
 unfold rsR rsRec
 rw [h.view p, g.view p, h.cm]
 split
 ·exact h
 ·rw [h.room]
  split
  ·exact h
  ·exact h.keep _ _ _
theorem st_pl (h : St j x y) (g : St i u v) : St j (plR j x i u).2.1 (plR j y i v).2.1 := by
 have e : yle j x.cm x.E i u.cm u.E = yle j y.cm y.E i v.cm v.E := by
  unfold yle
  have k1 := h.keys
  have k2 := g.keys
  rw [k1, k2]
  have : yiu j x.cm x.E i u.cm u.E = yiu j y.cm y.E i v.cm v.E := by
   funext acc p
   unfold yiu
   rw [h.view p, g.view p, h.cm, g.cm]
  rw [this]
 unfold plR
 rw [e, h.cm, g.cm]
 split
 ·exact h
 ·exact St.refl _ _
structure Sts (S T : List RS) : Prop where
 len : S.length = T.length
 at_ : ∀ j, St j (S.getD j rs0) (T.getD j rs0)
theorem Sts.set (h : Sts S T) (r : Nat) (hx : St r x y) : Sts (S.set r x) (T.set r y) := by
 refine ⟨by rw [List.length_set, List.length_set]; exact h.len, fun j => ?_⟩
 by_cases hr : r < S.length
 ·by_cases e : r = j
  ·subst e
   rw [ydv hr, ydv (by rw [← h.len]; exact hr)]
   exact hx
  ·rw [yfw e, yfw e]
   exact h.at_ j
 ·rw [List.set_eq_of_length_le (by omega), List.set_eq_of_length_le (by have := h.len; omega)]
  exact h.at_ j
theorem sts_step (h : Sts S T) (o : ych) : Sts (ydd n S o) (ydd n T o) := by
 unfold ydd
 have hr := h.at_ (o.R n)
 have hf := h.at_ (o.F n)
 split
 ·exact h.set _ (st_wr hr _ _)
 ·split
  ·exact h.set _ (st_rm hr _)
  ·split
   ·exact h.set _ (st_pp hr hf _)
   ·split
    ·exact h.set _ (st_pl hr hf)
    ·exact h.set _ (st_rs hr hf _ _)
theorem sts_run (h : Sts S T) (os : Nat → ych) (k : Nat) : Sts (yye n S os k) (yye n T os k) := by
 induction k with
 |zero => exact h
 |succ k ih =>
  rw [yhh, yhh]
  exact sts_step ih _
theorem st_dr (h : St j x y) : drO n j x = drO n j y := by
 have e : ∀ z : RS, z.E.map (fun x => (x.1, dsO n (ybk j z.cm (some x.2)))) = (nf j z.cm z.E).map (fun e => (e.1, dsO n e.2)) := fun z => by
  unfold nf
  rw [List.map_map]
  rfl
 unfold drO
 rw [e x, e y, h.eq, h.cm]
theorem sts_net (h : Sts S T) : yfe S = yfe T := by
 unfold yfe
 rw [h.len]
 exact List.map_congr_left fun j _ => st_dr (h.at_ j)
def unS (m : List DR) : List RS := m.map fun d => ⟨lfn d.com, toE d.recs⟩
theorem unS_at (hV : VS S) (hW : Wf B S) (hj : j < S.length) : (unS (yfe S)).getD j rs0 = ⟨(S.getD j rs0).cm, nf j (S.getD j rs0).cm (S.getD j rs0).E⟩ := by
 have hs := List.getElem?_eq_getElem hj
 have es : S.getD j rs0 = S[j] := by rw [List.getD_eq_getElem?_getD, hs]; rfl
 have hd : (yfe S)[j]? = some (drO S.length j (S.getD j rs0)) := by
  unfold yfe
  rw [List.getElem?_map, List.getElem?_range hj]
  rfl
 have hv := hV j hj
 have w1 := hW.at hs
 unfold unS
 rw [List.getD_eq_getElem?_getD, List.getElem?_map, hd]
 rw [es] at hv ⊢
 generalize S[j] = s at *
 simp only [Option.map_some, Option.getD_some]
 have e1 : lfn (drO S.length j s).com = s.cm := ylp hv.cm0 (fun i hi => by
  have h1 := hv.cmC i
  rw [yoq hi] at h1
  have := hv.cm0 i
  omega)
 have e2 : toE (drO S.length j s).recs = nf j s.cm s.E := by
  unfold toE drO nf
  simp only [List.map_map]
  refine List.map_congr_left fun x hx => ?_
  simp only [Function.comp]
  have := hv.vw x.1
  rw [ydj w1.ris (R := x.2) hx] at this
  rw [dsO_rec this (fun i hi => yoq hi)]
 rw [e1, e2]
theorem unS_sts (hV : VS S) (hW : Wf B S) : Sts S (unS (yfe S)) := by
 have hl : (unS (yfe S)).length = S.length := by unfold unS; rw [List.length_map, yhz]
 refine ⟨hl.symm, fun j => ?_⟩
 by_cases hj : j < S.length
 ·rw [unS_at hV hW hj]
  exact ⟨rfl, (nf_nf j _ _ _).symm⟩
 ·rw [List.getD_eq_getElem?_getD, List.getD_eq_getElem?_getD, List.getElem?_eq_none (by omega), List.getElem?_eq_none (by omega)]
  exact St.refl _ _
theorem unS_wf (hV : VS S) (hW : Wf B S) : Wf B (unS (yfe S)) := by
 have hl : (unS (yfe S)).length = S.length := by unfold unS; rw [List.length_map, yhz]
 intro s hs
 obtain ⟨j, hj, rfl⟩ := List.getElem_of_mem hs
 have hj2 : j < S.length := by omega
 have e := unS_at hV hW hj2
 have e2 : (unS (yfe S)).getD j rs0 = (unS (yfe S))[j] := by rw [List.getD_eq_getElem?_getD, List.getElem?_eq_getElem hj]; rfl
 rw [← e2, e]
 have w1 := hW.at (ybo hj2)
 refine ⟨?_, fun x hx => ?_, w1.lo, w1.hi⟩
 ·show ((S.getD j rs0).E.map _).Pairwise _
  rw [List.pairwise_map]
  exact w1.ris
 ·obtain ⟨y, hy, rfl⟩ := List.mem_map.1 hx
  exact w1.kin y hy
end Go.Proofs.K

namespace Go.Proofs.K
open Go.RowKit Go.Sim
variable {S : List RS} {B : Int}
theorem leB_of {a b : Nat → Int} (h : ∀ k, a k ≤ b k) (h0 : ∀ k, 0 ≤ b k) : leB a b = true := by
 unfold leB
 refine eqT_of fun k _ => ?_
 have h1 := ycd a b k
 have h2 := yjv (a := a) (b := b) (h0 k) (h k) (Int.le_refl _)
 omega
theorem cntF_net (hV : VS S) (hW : Wf B S) : ylf (yfe S) = CS S := by
 funext j
 unfold ylf
 by_cases hj : j < S.length
 ·have hd : (yfe S)[j]? = some (drO S.length j (S.getD j rs0)) := by
   unfold yfe
   rw [List.getElem?_map, List.getElem?_range hj]
   rfl
  rw [hd]
  have q := (yoo hV hW).at_ j _ _ (ybo hj) hd
  simp only
  rw [q.com]
  rfl
 ·rw [List.getElem?_eq_none (by rw [yhz]; omega)]
  exact (yoq (by omega)).symm
theorem good_of (hV : VS S) (hW : Wf B S) : goodN (yfe S) := by
 have key : ∀ (i : Nat) d, (yfe S)[i]? = some d → i < S.length ∧ lfn d.com = (S.getD i rs0).cm ∧ ∀ y ∈ d.recs, ∃ x ∈ (S.getD i rs0).E, ybl y.2 = ybk i (S.getD i rs0).cm (some x.2) ∧ Vr S.length (CS S) (ybk i (S.getD i rs0).cm (some x.2)) := fun i d hd => by
  obtain ⟨hi, rfl⟩ := yuo hd
  have q := (yoo hV hW).at_ i _ _ (ybo hi) hd
  refine ⟨hi, q.com, fun y hy => ?_⟩
  obtain ⟨x, hx, rfl⟩ := List.mem_map.1 hy
  have w1 := hW.at (ybo hi)
  have hv := (hV i hi).vw x.1
  rw [ydj w1.ris (R := x.2) hx] at hv
  exact ⟨x, hx, dsO_rec hv (fun j hj => yoq hj), hv⟩
 refine ⟨fun i d hd => ?_, ?_⟩
 ·obtain ⟨hi, hc, hk⟩ := key i d hd
  have hv := hV i hi
  have w1 := hW.at (ybo hi)
  refine ⟨fun y hy => ⟨((yoo hV hW).at_ i _ _ (ybo hi) hd).born y hy, ?_⟩, ?_⟩
  ·obtain ⟨x, hx, e, hr⟩ := hk y hy
   rw [e, hc]
   unfold yfb
   have hkp := hv.kp x.1 x.2 (ydj w1.ris (R := x.2) hx)
   have k1 : (ybk i (S.getD i rs0).cm (some x.2)).kn i = (S.getD i rs0).cm i := by simp [ybk, upT]
   have k2 : eqT (yac (ybk i (S.getD i rs0).cm (some x.2)).ch (ybk i (S.getD i rs0).cm (some x.2)).kn) (ybk i (S.getD i rs0).cm (some x.2)).kn = true := leB_of hr.chK hr.kn0
   rw [decide_eq_true k1, k2, Bool.true_and, Bool.true_and]
   rcases hkp with h | h
   ·have : decide (0 < (ybk i (S.getD i rs0).cm (some x.2)).bn) = true := decide_eq_true h
    rw [this]
    rfl
   ·have : eqT (ybk i (S.getD i rs0).cm (some x.2)).kn (S.getD i rs0).cm = false := h
    rw [this]
    simp
  ·have h1 := yok hW d (List.mem_of_getElem? hd)
   have h2 : yiq d.recs ≤ d.recs.length := List.length_filter_le _ _
   omega
 ·rw [cntF_net hV hW, List.all_eq_true]
  intro d hd
  obtain ⟨i, hi, e⟩ := List.getElem_of_mem hd
  have hd' : (yfe S)[i]? = some d := by rw [List.getElem?_eq_getElem hi, e]
  obtain ⟨hi2, hc, hk⟩ := key i d hd'
  have hv := hV i hi2
  have h0 : ∀ k, 0 ≤ CS S k := fun k => Int.le_trans (hv.cm0 k) (hv.cmC k)
  unfold inB
  rw [Bool.and_eq_true, List.all_eq_true]
  refine ⟨fun y hy => ?_, ?_⟩
  ·obtain ⟨x, hx, e, hr⟩ := hk y hy
   have : lfn y.2.known = (ybk i (S.getD i rs0).cm (some x.2)).kn := by rw [← e]; rfl
   rw [this]
   exact leB_of hr.knC h0
  ·rw [hc]
   exact leB_of hv.cmC h0
end Go.Proofs.K

namespace Go.Proofs.K
open Go.RowKit Go.Sim
theorem begS_wf (n : Nat) : Wf 1 (begS n) := by
 have z0 : Wf1 0 yqv := ⟨List.Pairwise.nil, fun x hx => by simp [yqv] at hx, fun i => Int.le_refl 0, fun i => Int.le_refl 0⟩
 have b0 : Wf1 1 beg0 := (wr_wf z0 (by decide) (by decide) (by decide) yoe _).2
 have b1 : Wf1 1 beg1 := (pl_wf (z0.mono (by decide)) b0 (by decide)).2.1
 have hn : Wf 1 (ykw n) := fun s hs => by
  obtain ⟨_, rfl⟩ := List.mem_replicate.1 hs
  exact z0.mono (by decide)
 exact (hn.set 0 b0).set 1 b1
theorem yoc (n : Nat) : (begS n).length = n := by simp [begS, ykw]
end Go.Proofs.K
