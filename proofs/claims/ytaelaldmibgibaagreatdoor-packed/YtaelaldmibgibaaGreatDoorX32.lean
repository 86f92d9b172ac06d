/- The program's ReadHex. -/
import Derived.Test.YtaelaldmibgibaaGreatDoorX31
import Derived.Test.YtaelaldmibgibaaGreatDoorX15
import Derived.Test.YtaelaldmibgibaaGreatDoorX12

set_option linter.all false
set_option maxHeartbeats 4000000
set_option maxRecDepth 100000

namespace Go.Proofs.K
open Go.RowKit Go.Lib
theorem info_u8 : (Tryz.prog.info? 5).map (fun i => (i.zero, i.size, i.bytes)) = some (some (.int .u8 0), 1, 1) := by kernel_rfl
theorem app_u8 {ops : Array Oper} {rest : List Oper} {o : Oper} {a : Act} {Q : Exit → Act → World → Prop} (w : World) (hgd : o.guard = none) (s x : Operand) (ho : o.op = .call { callee := .builtin .append, args := #[s, x], argTypes := #[53, 53] }) (base : Nat) (v : Value) (n : Nat) (xs : List Value) (hs : a.eval s = v) (hown : w.ownsRow base 5 1 v n xs)
  (k : Nat) (y : Int) (hx : a.eval x = .slice (some ⟨k, 0, none⟩) 1 1) (hc : w.cell? ⟨k, 0, none⟩ = some (.int .u8 y)) (hn : n ≤ 1000000000000) (hb : base ≤ w.heap.size)
  (h : ∀ g cap w1, w1.ownsRow base 5 1 (.slice (some ⟨g, 0, none⟩) (n + 1) cap) (n + 1) (xs ++ [.int .u8 y]) → w.grownBy w1 v.ownBlock → (v.ownBlock = some g ∨ g = w.heap.size) → g < w1.heap.size → wpList Tryz.prog ops Q rest (a.put o.dst (.slice (some ⟨g, 0, none⟩) (n + 1) cap)) w1) :
  wpList Tryz.prog ops Q (o :: rest) a w := by
 obtain ⟨i0, hi, hz0, hz1, hz2⟩ := info_parts info_u8
 refine wpList_append_lies w hgd s x 53 ho base 5 i0 _ 1 1 Tryz.underlying53 hi hz0 hz1 hz2 rfl (by decide) v n xs hs hown ⟨k, 0, none⟩ 1 1 [.int .u8 y] hx rfl ?_ ?_ (by omega) (by unfold maxLen; omega) (by omega) hb _ rfl h
 ·intro j u hj
  match j, hj with
  |0, hj => simp at hj; subst hj; simpa [Addr.add] using hc
 ·intro u hu; simp at hu; subst hu; rfl
theorem ycw {B : Nat} {w w' : World} (h : Below B w w') (q : Nat) : Below B w (w'.drewN q) := ⟨h.os, h.tape, h.output, h.size, h.block⟩
def bvs (l : Bs) : List Value := l.map (fun c => Value.int .u8 (c.toNat : Int))
structure RH (w wr : World) (v : Value) (u : Bs) : Prop where
 bel : Below w.heap.size w wr
 own : wr.ownsRow w.heap.size 5 1 v u.length (bvs u)
theorem ysn : ∀ (k : Nat) (a b : Bs), a.length = 2 * k → ycs (a ++ b) = (ycs a).bind fun x => (ycs b).map (x ++ ·)
 |0, a, b, h => by
  have : a = [] := List.length_eq_zero_iff.1 (by omega)
  subst this
  cases h : ycs b <;> simp [ycs, h]
 |k + 1, a, b, h => by
  match a, h with
  |x :: y :: a, h =>
   rw [List.cons_append, List.cons_append, ycs, ycs, ysn k a b (by simp at h; omega)]
   split
   ·rfl
   ·cases ycs a with
    |none => rfl
    |some z => cases ycs b <;> simp
theorem ReadHex_any (t : ByteArray) (ht : t.size ≤ 10000000) (w : World) :
  Calls Tryz.prog 252 #[.string t] w fun e w' => e = .returned (.tuple #[.string (yaf ((yvw (bs t)).getD [])), .bool (yvw (bs t)).isSome]) ∧ Below w.heap.size w w' := by
 have CP : Hid (Calls Tryz.prog 143 #[.string t, .string ⟨#[61]⟩] w fun e w' => e = .returned (.tuple #[.string (yaf (trimPrefix (bs t) [61])), .bool (hasPrefix (bs t) [61])]) ∧ w' = w) := Tryz.strings_CutPrefix t ⟨#[61]⟩ w
 have IB : Hid (∀ (W : World) (c : UInt8), Calls Tryz.prog 266 #[.string ⟨#[48, 49, 50, 51, 52, 53, 54, 55, 56, 57, 97, 98, 99, 100, 101, 102]⟩, .int .u8 (c.toNat : Int)] W fun e w' => e = .returned (.int .i64 (dv c)) ∧ w' = W) := fun W c => by
  refine (Tryz.strings_IndexByte ⟨#[48, 49, 50, 51, 52, 53, 54, 55, 56, 57, 97, 98, 99, 100, 101, 102]⟩ (c.toNat : Int) W).mono ?_
  rintro e w' ⟨rfl, rfl⟩
  rw [Lib.byte_back']
  exact ⟨rfl, rfl⟩
 have HR : Hid (yvw (bs t) = if hasPrefix (bs t) [61] = true ∧ (trimPrefix (bs t) [61]).length % 2 = 0 ∧ (trimPrefix (bs t) [61]).length ≤ 120 then ycs (trimPrefix (bs t) [61]) else none) := rfl
 have hsz : (yaf (trimPrefix (bs t) [61])).size ≤ 10000000 := by
  rw [← yax, yah]
  unfold trimPrefix
  split
  ·rw [List.length_drop, yax]; omega
  ·rw [yax]; omega
 have HQ : Hid (bs (yaf (trimPrefix (bs t) [61])) = trimPrefix (bs t) [61]) := yah _
 generalize yvw (bs t) = R at *
 generalize hasPrefix (bs t) [61] = hp at *
 generalize yaf (trimPrefix (bs t) [61]) = q at *
 rw [← HQ.out, yax] at HR
 clear HQ
 cases hp with
 |false =>
  have e : R = none := by rw [HR.out, if_neg (by simp)]
  subst e
  go_enter Tryz.func252, Tryz.ntmps252
  go_wp2_with (go_at_call 143; refine (CP.out).mono ?_; rintro e w ⟨rfl, rfl⟩)
  go_ret2
  exact ⟨rfl, Below.refl _ _⟩
 |true =>
  have dm : ((q.size : Int).tmod 2) = ((q.size % 2 : Nat) : Int) := by rw [Int.tmod_eq_emod_of_nonneg (by omega)]; simp
  by_cases h2 : q.size % 2 = 0
  ·rw [h2] at dm
   by_cases h3 : q.size ≤ 120
   ·have HR' : Hid (R = ycs (bs q)) := by unfold Hid; rw [HR.out, if_pos ⟨rfl, h2, h3⟩]
    have d3 : decide ((120 : Int) < (q.size : Int)) = false := by simp; omega
    clear HR
    obtain ⟨zs, hzs, hmk⟩ : ∃ zs : Array Value, zs.size = 60 ∧ ∀ W, (Instr.makeSlice 53 (.int .i64 0) (.int .i64 60)).run Tryz.prog W = .ok (.slice (some ⟨W.heap.size, 0, none⟩) 0 60) (W.alloc (.cells zs 5)) := ⟨Array.replicate 60 (.int .u8 0), rfl, fun _ => by kernel_rfl⟩
    have H0 : Hid (RH w (w.alloc (.cells zs 5)) (.slice (some ⟨w.heap.size, 0, none⟩) 0 60) []) := ⟨(Below.refl _ _).alloc (Nat.le_refl _) _, World.ownsRow_made w zs 60 (Nat.le_refl _) (by unfold maxLen; omega) (by rw [hzs])⟩
    go_enter Tryz.func252, Tryz.ntmps252
    go_wp2_with (go_at_call 143; refine (CP.out).mono ?_; rintro e w ⟨rfl, rfl⟩)
    go_loopw [6, 7] (fun tv iv wr => ∃ (i : Nat) (u : Bs), i ≤ q.size ∧ i % 2 = 0 ∧ iv = .int .i64 i ∧ (∃ g c, tv = .slice (some ⟨g, 0, none⟩) u.length c) ∧ Hid (ycs ((bs q).take i) = some u) ∧ Hid (RH w wr tv u)) (fun _ iv _ => q.size - (Go.RowKit.intOf iv).toNat)
    case atStart => exact ⟨0, [], Nat.zero_le _, rfl, rfl, ⟨_, _, rfl⟩, rfl, H0⟩
    case round =>
     obtain ⟨i, u, hi, hi2, rfl, ⟨tg, tcp, rfl⟩, hu, hH⟩ := hrel
     clear H0
     have hul : Hid (2 * u.length = i) := by
      have := (yhe _ _).1 hu.out
      have hl := yhw u
      rw [← this, List.length_take, yax] at hl
      unfold Hid
      omega
     by_cases hin : i < q.size
     ·have hin1 : i + 1 < q.size := by omega
      have gx : (bs q)[i]? = some q[i] := by rw [at_bs q i hin, getElem!_pos q.data i hin]; rfl
      have gy : (bs q)[i + 1]? = some q[i + 1] := by rw [at_bs q (i + 1) hin1, getElem!_pos q.data (i + 1) hin1]; rfl
      have PS : Hid (∀ b, ycs ((bs q).take i ++ b) = (ycs b).map (u ++ ·)) := fun b => by
       rw [ysn (i / 2) _ _ (by rw [List.length_take, yax]; omega), hu.out]
       rfl
      have ES : Hid (bs q = (bs q).take i ++ q[i] :: q[i + 1] :: (bs q).drop (i + 2)) := by
       unfold Hid
       conv => lhs; rw [← List.take_append_drop i (bs q)]
       rw [List.drop_eq_getElem_cons (by rw [yax]; exact hin), List.drop_eq_getElem_cons (by rw [yax]; exact hin1)]
       have e1 := (List.getElem?_eq_some_iff.1 gx).2
       have e2 := (List.getElem?_eq_some_iff.1 gy).2
       rw [e1, e2]
      have ET : Hid ((bs q).take (i + 2) = (bs q).take i ++ [q[i], q[i + 1]]) := by
       unfold Hid
       rw [List.take_add_one, gy, List.take_add_one, gx]
       simp
      have BR : Hid (dv q[i] < 0 ∨ dv q[i + 1] < 0 → R = none) := fun h => by
       rw [HR'.out, ES.out, PS.out, ycs, if_pos h]
       rfl
      clear gx gy
      have hwr : IntKind.i64.wrap ((i : Int) + 1) = (i : Int) + 1 := wrap_small _ (by omega) (by omega)
      have hi0 : (0 : Int) ≤ (i : Int) + 1 := by omega
      have hi1 : (i : Int) + 1 < (q.size : Int) := by omega
      rcases ytu q[i] with hx | ⟨a, ha, hx, -⟩
      ·have eR : R = none := BR.out (.inl (by omega))
       subst eR
       have dx : decide (dv q[i] < 0) = true := by rw [hx]; rfl
       go_wp2_with fail
       go_quiet ((go_at_call 266; exact (IB.out _ _).mono fun _ _ h => ⟨h.1, _, h.2⟩))
       go_wp2
       go_ret2
       exact ⟨rfl, ycw hH.out.bel _⟩
      ·rcases ytu q[i + 1] with hy | ⟨b, hb, hy, -⟩
       ·have eR : R = none := BR.out (.inr (by omega))
        subst eR
        go_wp2_with fail
        go_quiet ((go_at_call 266; exact (IB.out _ _).mono fun _ _ h => ⟨h.1, _, h.2⟩))
        go_wp2
        go_ret2
        exact ⟨rfl, ycw hH.out.bel _⟩
       ·have own := hH.out.own
        have PU : Hid (ycs ((bs q).take (i + 2)) = some (u ++ [UInt8.ofNat (16 * a + b)])) := by
         unfold Hid
         rw [ET.out, PS.out, ycs, if_neg (by omega), hx, hy]
         rfl
        clear PS ES ET BR
        go_wp2_with fail
        go_quiet ((go_at_call 266; exact (IB.out _ _).mono fun _ _ h => ⟨h.1, _, h.2⟩))
        have hz0 : w.heap.size ≤ wr.heap.size := hH.out.bel.size
        have hul' : u.length ≤ 10000000 := by have := hul.out; omega
        have OW : Hid (∀ o, ((wr.drewN nq).alloc o).ownsRow w.heap.size 5 1 (.slice (some ⟨tg, 0, none⟩) u.length tcp) u.length (bvs u)) := fun o => World.ownsRow.alloc (yas own (fun _ _ => rfl)) o
        have d3' : decide ((a : Int) < 0) = false := by simp
        have d4' : decide ((b : Int) < 0) = false := by simp
        have HC : ∀ y t', ((wr.drewN nq).alloc (.cells #[y] t')).cell? ⟨wr.heap.size, 0, none⟩ = some y := fun y t' => by
         have q' : ((wr.drewN nq).alloc (.cells #[y] t')).heap[wr.heap.size]? = some (.cells #[y] t' (0, 0)) := heap_alloc_new (wr.drewN nq) (.cells #[y] t')
         unfold World.cell?
         simp only [q']
         rfl
        have HZ : ∀ o, w.heap.size ≤ ((wr.drewN nq).alloc o).heap.size := fun o => by
         have : ((wr.drewN nq).alloc o).heap.size = wr.heap.size + 1 := World.size_alloc (wr.drewN nq) o
         omega
        rw [hx, hy]
        clear hmk dm hwr hx hy d3 hzs own
        go_wp2_with (at_builtin; refine app_u8 _ rfl (.tmp 50) (.tmp 56) rfl w.heap.size _ _ _ rfl (OW.out _) wr.heap.size (16 * (a : Int) + (b : Int)) rfl (HC _ _) (by omega) (HZ _) ?_; intro g3 c3 w3 ho3 hgr3 hat3 hl3)
        have hv : (UInt8.ofNat (16 * a + b)).toNat = 16 * a + b := by rw [UInt8.toNat_ofNat']; omega
        refine ⟨⟨i + 2, u ++ [UInt8.ofNat (16 * a + b)], by omega, by omega, by go_num, ⟨g3, c3, by simp⟩, PU, ?_⟩, by simp [Go.RowKit.intOf]; omega⟩
        refine ⟨?_, ?_⟩
        ·refine Below.grown ((ycw hH.out.bel nq).alloc hz0 _) hgr3 (HZ _) (fun k hk => ?_)
         exact (World.ownsRow.lt hH.out.own k hk).1
        ·have e : bvs (u ++ [UInt8.ofNat (16 * a + b)]) = bvs u ++ [.int .u8 (16 * (a : Int) + (b : Int))] := by
          unfold bvs
          rw [List.map_append, List.map_singleton, hv]
          simp
         rw [e, List.length_append]
         exact ho3
     ·have ei : i = q.size := by omega
      subst ei
      have eR : R = some u := by rw [HR'.out, ← hu.out, ← yax, List.take_length]
      subst eR
      have own := hH.out.own
      have hcv : (convert 53 9 (.slice (some ⟨tg, 0, none⟩) u.length tcp)).run Tryz.prog wr = .ok (.string (yaf u)) wr := by
       rcases own.2 with ⟨e, _⟩ | ⟨g, cap, cur, e, _, hgc, _, _, _, htk⟩
       ·cases e
       ·simp only [Value.slice.injEq, Option.some.injEq, Addr.mk.injEq, and_true, true_and] at e
        obtain ⟨rfl, rfl⟩ := e
        refine run_convert_bytes_back (P := Tryz.prog) _ 53 9 5 ⟨tg, 0, none⟩ tcp u Tryz.underlying53 Tryz.underlying5 Tryz.underlying9 (fun j hj => ?_)
        have h1 : (bvs u)[j]? = some (.int .u8 (u[j].toNat : Int)) := by simp [bvs, hj]
        have e : (⟨tg, 0, none⟩ : Addr).add j = ⟨tg, j, none⟩ := by unfold Addr.add; split <;> simp_all
        rw [e]
        rw [← htk, List.getElem?_take] at h1
        split at h1
        ·simp only [World.cell?, hgc]
         simpa using h1
        ·cases h1
      go_wp2
      go_ret2
      exact ⟨rfl, hH.out.bel⟩
   ·have e : R = none := by rw [HR.out, if_neg (by omega)]
    subst e
    have d3 : decide ((120 : Int) < (q.size : Int)) = true := by simp; omega
    go_enter Tryz.func252, Tryz.ntmps252
    go_wp2_with (go_at_call 143; refine (CP.out).mono ?_; rintro e w ⟨rfl, rfl⟩)
    go_ret2
    exact ⟨rfl, Below.refl _ _⟩
  ·have e : R = none := by rw [HR.out, if_neg (by omega)]
   subst e
   rw [show q.size % 2 = 1 by omega] at dm
   go_enter Tryz.func252, Tryz.ntmps252
   go_wp2_with (go_at_call 143; refine (CP.out).mono ?_; rintro e w ⟨rfl, rfl⟩)
   go_ret2
   exact ⟨rfl, Below.refl _ _⟩
structure yqw where
 text : Bs
 br : Nat
 bn : Nat
 ch : List Nat
def yds (n : Nat) : List Bs → Option (Option yqw)
 |[a] => if a = [45] then some none else none
 |[a, b, c] => (ycl n a).bind fun e => (yby n b).bind fun l => (yvw c).bind fun t => if e.2 ≤ l.getD e.1 0 then some (some ⟨t, e.1, e.2, l⟩) else none
 |_ => none
theorem ysb (n : Nat) (fs : List Bs) : yds n fs = some none ↔ fs = [[45]] := by
 constructor
 ·intro h
  match fs with
  |[] => cases h
  |[a] =>
   have h' : (if a = [45] then some none else none : Option (Option yqw)) = some none := h
   by_cases e : a = [45]
   ·rw [e]
   ·rw [if_neg e] at h'
    cases h'
  |[a, b] => cases h
  |[a, b, c] =>
   unfold yds at h
   simp only [Option.bind_eq_some_iff] at h
   obtain ⟨_, _, _, _, _, _, h⟩ := h
   split at h <;> cases h
  |a :: b :: c :: d :: r => cases h
 ·rintro rfl
  rfl
theorem ysc (n : Nat) (hn : 1 ≤ n) (h6 : n ≤ 6) (fs : List Bs) (f : yqw) : yds n fs = some (some f) ↔
  f.br < n ∧ 1 ≤ f.bn ∧ f.bn ≤ 1000000000 ∧ f.ch.length = n ∧ (∀ v ∈ f.ch, v ≤ 1000000000) ∧ f.text.length ≤ 60 ∧ f.bn ≤ f.ch.getD f.br 0 ∧
  fs = [decDigits f.br ++ 58 :: decDigits f.bn, yba f.ch, 61 :: yir f.text] := by
 constructor
 ·intro h
  match fs with
  |[] => cases h
  |[a] =>
   have h' : (if a = [45] then some none else none : Option (Option yqw)) = some (some f) := h
   by_cases e : a = [45]
   ·rw [if_pos e] at h'
    cases h'
   ·rw [if_neg e] at h'
    cases h'
  |[a, b] => cases h
  |[a, b, c] =>
   unfold yds at h
   simp only [Option.bind_eq_some_iff] at h
   obtain ⟨e, h1, l, h2, t, h3, h4⟩ := h
   split at h4
   ·rename_i hc
    cases h4
    obtain ⟨q1, q2, q3, rfl⟩ := (ymr n h6 a e.1 e.2).1 h1
    obtain ⟨q5, q6, rfl⟩ := (yhm n hn b l).1 h2
    obtain ⟨q7, rfl⟩ := (hexR_iff c t).1 h3
    exact ⟨q1, q2, q3, q5, q6, q7, hc, rfl⟩
   ·cases h4
  |a :: b :: c :: d :: r => cases h
 ·rintro ⟨q1, q2, q3, q4, q5, q6, q7, rfl⟩
  show ((ycl n (decDigits f.br ++ 58 :: decDigits f.bn)).bind fun e => (yby n (yba f.ch)).bind fun l => (yvw (61 :: yir f.text)).bind fun t => if e.2 ≤ l.getD e.1 0 then some (some ⟨t, e.1, e.2, l⟩) else none) = some (some f)
  rw [(ymr n h6 _ f.br f.bn).2 ⟨q1, q2, q3, rfl⟩, (yhm n hn _ f.ch).2 ⟨q4, q5, rfl⟩, (hexR_iff _ f.text).2 ⟨q6, rfl⟩]
  simp only [Option.bind_some]
  rw [if_pos q7]
structure FldO (w : World) (B o : Nat) (fs : List Bs) : Prop where
 pc : ∀ (j : Nat) p, fs[j]? = some p → w.cell? ⟨B, o + j, none⟩ = some (.string (yaf p))
 lt : B < w.heap.size
theorem FldO.below {w w' : World} {B o : Nat} {fs : List Bs} (h : FldO w B o fs) (hb : Below w.heap.size w w') : FldO w' B o fs :=
 ⟨fun j p hp => (hb.cell (p := ⟨B, o + j, none⟩) h.lt).trans (h.pc j p hp), Nat.lt_of_lt_of_le h.lt hb.size⟩
def fIs (R : Rec) : Option yqw → Prop
 |none => R.text = ⟨#[]⟩ ∧ R.br = 0 ∧ R.bn = 0 ∧ R.ch = fun _ => 0
 |some f => R.text = yaf f.text ∧ R.br = f.br ∧ R.bn = f.bn ∧ R.ch = lfn f.ch
attribute [local go_sem ↓] yyn ykp ldTime stEvent ldEvent
attribute [local go_sem] yhi ygs ysz yqe yqd
theorem yxq (B o C : Nat) (fs : List Bs) (h1 : fs.length = 1) (n : Nat) (w : World) (hF : FldO w B o fs) :
  Calls Tryz.prog 222 #[.slice (some ⟨B, o, none⟩) fs.length C, .int .i64 n] w fun e w' => ∃ R : Rec, e = .returned (.tuple #[ybb R, .bool (yds n fs).isSome]) ∧ (∀ f, yds n fs = some f → fIs R f) ∧ Below w.heap.size w w' := by
 have M0 := yab (ycj.made' w #[.string ⟨#[]⟩, .int .i64 0, .int .i64 0, .int .i64 0, .int .i64 0, .int .i64 0, .int .i64 0, .int .i64 0, .int .i64 0] 193 (n := 9) rfl)
 have th0 := M0.out.there
 obtain ⟨p, rfl⟩ : ∃ p, fs = [p] := List.length_eq_one_iff.1 h1
 have c0 := (hF.below ((Below.refl _ _).alloc (Nat.le_refl _) (.cells #[.string ⟨#[]⟩, .int .i64 0, .int .i64 0, .int .i64 0, .int .i64 0, .int .i64 0, .int .i64 0, .int .i64 0, .int .i64 0] 193))).pc 0 p rfl
 rw [Nat.add_zero] at c0
 have c1 : ∀ vs, ((w.alloc (.cells #[.string ⟨#[]⟩, .int .i64 0, .int .i64 0, .int .i64 0, .int .i64 0, .int .i64 0, .int .i64 0, .int .i64 0, .int .i64 0] 193)).drew.setCells w.heap.size 0 vs).cell? ⟨B, o, none⟩ = some (.string (yaf p)) := fun vs => by
  rw [World.cell?_setCells_out _ _ _ _ _ (fun e => absurd e (by have := hF.lt; simp only; omega))]
  simpa using c0
 have t45 : (⟨#[45]⟩ : ByteArray).toList = [45] := by simp
 have HP : Hid (yds n [p] = if (yaf p).toList == [45] then some none else none) := by
  unfold Hid
  rw [← t45]
  show (if p = [45] then some none else none : Option (Option yqw)) = _
  by_cases e : p = [45]
  ·rw [if_pos e, if_pos]
   exact (ydm _ _).2 (by rw [e]; rfl)
  ·rw [if_neg e, if_neg]
   intro q
   have := (ydm _ _).1 q
   exact e (by rw [← yah p, this]; rfl)
 generalize yds n [p] = FR at *
 generalize yaf p = q at *
 clear h1 hF
 simp only [List.length_singleton]
 have th1 := M0.out.drew.there
 have RT : Hid (∀ (W : World) (b : Bool), ycj w w.heap.size 9 W → b = FR.isSome → (FR = none ∨ FR = some none) → ∃ R : Rec, Ending.returned (.tuple #[.agg #[.string ⟨#[]⟩, .int .i64 0, .int .i64 0, .int .i64 0, .int .i64 0, .int .i64 0, .int .i64 0, .int .i64 0, .int .i64 0], .bool b]) = .returned (.tuple #[ybb R, .bool FR.isSome]) ∧ (∀ f, FR = some f → fIs R f) ∧ Below w.heap.size w W) := fun W b hM hb hF => by
  refine ⟨⟨⟨#[]⟩, 0, 0, fun _ => 0, fun _ => 0⟩, by rw [hb]; rfl, fun f hf => ?_, hM.below⟩
  rcases hF with e | e
  ·rw [e] at hf; cases hf
  ·rw [e] at hf; cases hf; exact ⟨rfl, rfl, rfl, rfl⟩
 clear t45
 have e : Hid ((q.toList == [45]) = FR.isSome ∧ (FR = none ∨ FR = some none)) := by
  unfold Hid
  rw [HP.out]
  cases q.toList == [45] <;> simp
 clear HP
 go_enter Tryz.func222, Tryz.ntmps222
 go_wp2_with fail
 go_region_law (fail)
 all_goals
  go_wp2
  exact bodyPost_ret (yam Tryz.results222 (a := ⟨w.heap.size, 0, none⟩) rfl (yan (cs := [_, _, _, _, _, _, _, _, _]) M0.out.drew.there Tryz.underlying193 rfl ygc)) rfl (RT.out _ _ (ycj.setCells (p := True) ⟨M0.out.drew, trivial⟩ 0 _) e.out.1 e.out.2)
end Go.Proofs.K

namespace Go.Proofs.K
open Go.RowKit Go.Lib
attribute [local go_sem ↓] yyn
attribute [local go_sem] yhi
theorem yie (B o C : Nat) (fs : List Bs) (hl : fs.length ≠ 3) (h1 : fs.length ≠ 1) (hl6 : fs.length ≤ 6) (n : Nat) (w : World) :
  Calls Tryz.prog 222 #[.slice (some ⟨B, o, none⟩) fs.length C, .int .i64 n] w fun e w' => ∃ R : Rec, e = .returned (.tuple #[ybb R, .bool (yds n fs).isSome]) ∧ (∀ f, yds n fs = some f → fIs R f) ∧ Below w.heap.size w w' := by
 have d1 : ((fs.length : Int) != 3) = true := by simp; omega
 have d2 : ((fs.length : Int) == 1) = false := by simp; omega
 have M0 := yab (ycj.made' w #[.string ⟨#[]⟩, .int .i64 0, .int .i64 0, .int .i64 0, .int .i64 0, .int .i64 0, .int .i64 0, .int .i64 0, .int .i64 0] 193 (n := 9) rfl)
 have th0 := M0.out.there
 have th1 := M0.out.drew.there
 have e : yds n fs = none := by
  match fs, hl, h1 with
  |[], _, _ => rfl
  |[a], _, h1 => exact absurd rfl h1
  |[a, b], _, _ => rfl
  |[a, b, c], hl, _ => exact absurd rfl hl
  |a :: b :: c :: d :: r, _, _ => rfl
 rw [e]
 generalize fs.length = L at *
 have RT : Hid (∀ (W : World), ycj w w.heap.size 9 W → ∃ R : Rec, Ending.returned (.tuple #[.agg #[.string ⟨#[]⟩, .int .i64 0, .int .i64 0, .int .i64 0, .int .i64 0, .int .i64 0, .int .i64 0, .int .i64 0, .int .i64 0], .bool false]) = .returned (.tuple #[ybb R, .bool (none : Option (Option yqw)).isSome]) ∧ (∀ f, (none : Option (Option yqw)) = some f → fIs R f) ∧ Below w.heap.size w W) := fun W hM =>
  ⟨⟨⟨#[]⟩, 0, 0, fun _ => 0, fun _ => 0⟩, rfl, (fun f hf => by cases hf), hM.below⟩
 have d3 : (L == 1) = false := by simp; exact h1
 have d4 : decide (L = 1) = false := by simp; exact h1
 have h1' : ¬ (L : Int) = 1 := by omega
 clear e hl
 go_enter Tryz.func222, Tryz.ntmps222
 go_wp2_with fail
 go_region
 all_goals
  go_wp2
  exact bodyPost_ret (yam Tryz.results222 (a := ⟨w.heap.size, 0, none⟩) rfl (yan (cs := [_, _, _, _, _, _, _, _, _]) M0.out.drew.there Tryz.underlying193 rfl ygc)) rfl (RT.out _ (ycj.setCells (p := True) ⟨M0.out.drew, trivial⟩ 0 _))
end Go.Proofs.K

namespace Go.Proofs.K
open Go.RowKit Go.Lib
variable {W w : World} {eb tb : Nat} {ek er : Int} {f : Nat → Int}
structure F2 (w W : World) (eb tb : Nat) (er ek : Int) (f : Nat → Int) : Prop where
 mine : ycj w w.heap.size 9 W
 e : W.heap[eb]? = some (.cells #[.int .i64 er, .int .i64 ek] 191 (0, 0))
 t : W.heap[tb]? = some (.cells #[.int .i64 (f 0), .int .i64 (f 1), .int .i64 (f 2), .int .i64 (f 3), .int .i64 (f 4), .int .i64 (f 5)] 186 (0, 0))
theorem F2.below {W' : World} (h : F2 w W eb tb er ek f) (hb : Below W.heap.size W W') : F2 w W' eb tb er ek f :=
 ⟨ycj.call (p := True) ⟨h.mine, trivial⟩ hb, by rw [hb.block eb (Array.getElem?_eq_some_iff.1 h.e).1]; exact h.e, by rw [hb.block tb (Array.getElem?_eq_some_iff.1 h.t).1]; exact h.t⟩
theorem F2.made {w1 w3 : World} (M : ycj w w.heap.size 9 w1) (er ek : Int) (f : Nat → Int) (hb : Below (w1.alloc (.cells #[.int .i64 er, .int .i64 ek] 191)).heap.size (w1.alloc (.cells #[.int .i64 er, .int .i64 ek] 191)) w3) :
  F2 w (w3.alloc (.cells #[.int .i64 (f 0), .int .i64 (f 1), .int .i64 (f 2), .int .i64 (f 3), .int .i64 (f 4), .int .i64 (f 5)] 186)) w1.heap.size w3.heap.size er ek f := by
 refine ⟨(ycj.call (p := True) ⟨M.alloc _, trivial⟩ hb).alloc _, ?_, heap_alloc_new _ _⟩
 have hz := hb.size
 rw [Below.heap_alloc _ _ _ (by simp at hz; omega), hb.block _ (by simp)]
 exact heap_alloc_new _ _
theorem F2.cells (h : F2 w W eb tb er ek f) : W.cell? ⟨eb, 0, none⟩ = some (.int .i64 er) ∧ W.cell? ⟨eb, 1, none⟩ = some (.int .i64 ek) ∧ W.cell? ⟨tb, 0, none⟩ = some (.int .i64 (f 0)) ∧ W.cell? ⟨tb, 1, none⟩ = some (.int .i64 (f 1)) ∧ W.cell? ⟨tb, 2, none⟩ = some (.int .i64 (f 2)) ∧ W.cell? ⟨tb, 3, none⟩ = some (.int .i64 (f 3)) ∧ W.cell? ⟨tb, 4, none⟩ = some (.int .i64 (f 4)) ∧ W.cell? ⟨tb, 5, none⟩ = some (.int .i64 (f 5)) := by
 refine ⟨?_, ?_, ?_, ?_, ?_, ?_, ?_, ?_⟩ <;> (simp only [World.cell?, h.e, h.t]; rfl)
attribute [local go_sem ↓] yyn
attribute [local go_sem] yhi
theorem yrj (B o C : Nat) (a b c : Bs) (ha : a.length ≤ 10000000) (hb : b.length ≤ 10000000) (hc : c.length ≤ 10000000) (n : Nat) (h1 : 1 ≤ n) (h6 : n ≤ 6) (w : World) (hF : FldO w B o [a, b, c]) (hg : yez w) :
  Calls Tryz.prog 222 #[.slice (some ⟨B, o, none⟩) 3 C, .int .i64 n] w fun e w' => ∃ R : Rec, e = .returned (.tuple #[ybb R, .bool (yds n [a, b, c]).isSome]) ∧ (∀ f, yds n [a, b, c] = some f → fIs R f) ∧ Below w.heap.size w w' := by
 have M0 := yab (ycj.made' w #[.string ⟨#[]⟩, .int .i64 0, .int .i64 0, .int .i64 0, .int .i64 0, .int .i64 0, .int .i64 0, .int .i64 0, .int .i64 0] 193 (n := 9) rfl)
 have CE : Hid (∀ W, ycj w w.heap.size 9 W → Calls Tryz.prog 251 #[.string (yaf a), .int .i64 n] W fun e w' => e = .returned (.tuple #[.agg #[.int .i64 ((ycl n a).getD (0, 0)).1, .int .i64 ((ycl n a).getD (0, 0)).2], .bool (ycl n a).isSome]) ∧ ycj w w.heap.size 9 w' ∧ Below W.heap.size W w') := fun W hW => by
  have := ytl (yaf a) (by rw [yal]; exact ha) n h6 W (hg.below hW.below)
  rw [yah] at this
  exact this.mono (fun e w' ⟨q, r⟩ => ⟨q, ycj.call (p := True) ⟨hW, trivial⟩ r, r⟩)
 have CT : Hid (∀ W, ycj w w.heap.size 9 W → Calls Tryz.prog 146 #[.string (yaf b), .int .i64 n] W fun e w' => e = .returned (.tuple #[ygt (lfn ((yby n b).getD [])), .bool (yby n b).isSome]) ∧ ycj w w.heap.size 9 w' ∧ Below W.heap.size W w') := fun W hW => by
  have := yiv (yaf b) (by rw [yal]; exact hb) n h1 h6 W (hg.below hW.below)
  rw [yah] at this
  exact this.mono (fun e w' ⟨q, r⟩ => ⟨q, ycj.call (p := True) ⟨hW, trivial⟩ r, r⟩)
 have CH : Hid (∀ W, Calls Tryz.prog 252 #[.string (yaf c)] W fun e w' => e = .returned (.tuple #[.string (yaf ((yvw c).getD [])), .bool (yvw c).isSome]) ∧ Below W.heap.size W w') := fun W => by
  have := ReadHex_any (yaf c) (by rw [yal]; exact hc) W
  rw [yah] at this
  exact this
 have FL : Hid (∀ W, ycj w w.heap.size 9 W → FldO W B o [a, b, c]) := fun W hW => hF.below hW.below
 have hr6 : ((ycl n a).getD (0, 0)).1 < 6 := by
  cases he : ycl n a with
  |none => simp
  |some x => have := (ymr n h6 a x.1 x.2).1 he; simp only [Option.getD_some]; omega
 have HP : Hid (yds n [a, b, c] = (ycl n a).bind fun e => (yby n b).bind fun l => (yvw c).bind fun t => if e.2 ≤ l.getD e.1 0 then some (some ⟨t, e.1, e.2, l⟩) else none) := rfl
 have RT : Hid (∀ (W : World) (z : Bool), Below w.heap.size w W → z = ((ycl n a).isSome && ((yby n b).isSome && ((yvw c).isSome && decide ((((ycl n a).getD (0, 0)).2 : Int) ≤ lfn ((yby n b).getD []) ((ycl n a).getD (0, 0)).1)))) → ∃ R : Rec, Ending.returned (.tuple #[.agg #[.string (yaf ((yvw c).getD [])), .int .i64 ((ycl n a).getD (0, 0)).1, .int .i64 ((ycl n a).getD (0, 0)).2, .int .i64 (lfn ((yby n b).getD []) 0), .int .i64 (lfn ((yby n b).getD []) 1), .int .i64 (lfn ((yby n b).getD []) 2), .int .i64 (lfn ((yby n b).getD []) 3), .int .i64 (lfn ((yby n b).getD []) 4), .int .i64 (lfn ((yby n b).getD []) 5)], .bool z]) = .returned (.tuple #[ybb R, .bool (yds n [a, b, c]).isSome]) ∧ (∀ f, yds n [a, b, c] = some f → fIs R f) ∧ Below w.heap.size w W) := fun W z hW hz => by
  refine ⟨⟨yaf ((yvw c).getD []), ((ycl n a).getD (0, 0)).1, ((ycl n a).getD (0, 0)).2, lfn ((yby n b).getD []), fun _ => 0⟩, ?_, ?_, hW⟩
  ·have : z = (yds n [a, b, c]).isSome := by
    rw [hz, HP.out]
    cases ycl n a with
    |none => rfl
    |some x =>
     cases yby n b with
     |none => rfl
     |some l =>
      cases yvw c with
      |none => rfl
      |some t =>
       simp only [Option.bind_some, Option.getD_some, Option.isSome_some, Bool.true_and]
       have e : ((x.2 : Int) ≤ lfn l x.1) ↔ x.2 ≤ l.getD x.1 0 := by unfold lfn; omega
       by_cases hq : x.2 ≤ l.getD x.1 0
       ·rw [if_pos hq, decide_eq_true (e.2 hq)]; rfl
       ·rw [if_neg hq, decide_eq_false (fun q => hq (e.1 q))]; rfl
   rw [this]
   rfl
  ·intro f hf
   rw [HP.out] at hf
   cases he : ycl n a with
   |none => rw [he] at hf; cases hf
   |some x =>
    cases ht : yby n b with
    |none => rw [he, ht] at hf; cases hf
    |some l =>
     cases hx : yvw c with
     |none => rw [he, ht, hx] at hf; cases hf
     |some t =>
      rw [he, ht, hx] at hf
      simp only [Option.bind_some] at hf
      split at hf
      ·cases hf
       exact ⟨rfl, rfl, rfl, rfl⟩
      ·cases hf
 clear hF hg HP
 generalize (ycl n a).isSome = z1 at *
 generalize (yby n b).isSome = z2 at *
 generalize (yvw c).isSome = z3 at *
 generalize ((ycl n a).getD (0, 0)).1 = er at *
 generalize ((ycl n a).getD (0, 0)).2 = ek at *
 generalize lfn ((yby n b).getD []) = f at *
 generalize yaf ((yvw c).getD []) = tx at *
 generalize yds n [a, b, c] = FR at *
 have HA : Hid (∀ W, Calls Tryz.prog 224 #[.agg #[.int .i64 (f 0), .int .i64 (f 1), .int .i64 (f 2), .int .i64 (f 3), .int .i64 (f 4), .int .i64 (f 5)], .agg #[.int .i64 er, .int .i64 ek]] W fun e w' => e = .returned (.bool (decide ((ek : Int) ≤ f er))) ∧ Below W.heap.size W w') := fun W => Has_any f er ek hr6 W
 unfold ygt at CT
 have ga := (FL.out _ M0.out).pc 0 a rfl
 rw [Nat.add_zero] at ga
 have FB : Hid (∀ W, ycj w w.heap.size 9 W → ∀ o', (W.alloc o').cell? ⟨B, o + 1, none⟩ = some (.string (yaf b))) := fun W hW o' => by
  rw [World.cell?_alloc_old _ _ _ (Nat.ne_of_lt (FL.out W hW).lt)]
  exact (FL.out W hW).pc 1 b rfl
 have FC : Hid (∀ W, ycj w w.heap.size 9 W → ∀ o', (W.alloc o').cell? ⟨B, o + 2, none⟩ = some (.string (yaf c))) := fun W hW o' => by
  rw [World.cell?_alloc_old _ _ _ (Nat.ne_of_lt (FL.out W hW).lt)]
  exact (FL.out W hW).pc 2 c rfl
 generalize yaf a = sa at *
 generalize yaf b = sb at *
 generalize yaf c = sc at *
 clear FL
 go_enter Tryz.func222, Tryz.ntmps222
 go_wp2_with (first
  |(go_at_call 251; refine (CE.out _ M0.out).mono ?_; rintro e w1 ⟨rfl, hm1, _⟩; have M1 := yab hm1; clear hm1; have fb := FB.out w1 M1.out)
  |(go_at_call 146; refine (CT.out _ (M1.out.alloc _)).mono ?_; rintro e w3 ⟨rfl, hm3, hb3⟩; have M3 := yab hm3; clear hm3; have G3 := yab (F2.made M1.out er ek f hb3); clear hb3; have fc := FC.out w3 M3.out)
  |(go_at_call 252; refine (CH.out _).mono ?_; rintro e w5 ⟨rfl, hb5⟩; have G5 := yab (G3.out.below hb5); clear hb5))
 obtain ⟨k0, k1, k2, k3, k4, k5, k6, k7⟩ := G5.out.cells
 have th5 := G5.out.mine.there
 have th6 := G5.out.mine.drew.there
 clear CE CT CH FB FC fb fc ga M1 M3 G3
 cases z1 with
 |false =>
  go_region
  all_goals
   go_wp2
   exact bodyPost_ret (yam Tryz.results222 (a := ⟨w.heap.size, 0, none⟩) rfl (yan (cs := [_, _, _, _, _, _, _, _, _]) th6 Tryz.underlying193 rfl ygc)) rfl (RT.out _ _ (ycj.setCells (p := True) ⟨G5.out.mine.drew, trivial⟩ 0 _).below rfl)
 |true =>
  cases z2 with
  |false =>
   go_region
   all_goals
    go_wp2
    exact bodyPost_ret (yam Tryz.results222 (a := ⟨w.heap.size, 0, none⟩) rfl (yan (cs := [_, _, _, _, _, _, _, _, _]) th6 Tryz.underlying193 rfl ygc)) rfl (RT.out _ _ (ycj.setCells (p := True) ⟨G5.out.mine.drew, trivial⟩ 0 _).below rfl)
  |true =>
   cases z3 with
   |false =>
    go_region
    all_goals
     go_wp2
     exact bodyPost_ret (yam Tryz.results222 (a := ⟨w.heap.size, 0, none⟩) rfl (yan (cs := [_, _, _, _, _, _, _, _, _]) th6 Tryz.underlying193 rfl ygc)) rfl (RT.out _ _ (ycj.setCells (p := True) ⟨G5.out.mine.drew, trivial⟩ 0 _).below rfl)
   |true =>
    go_region_law (first
     |(go_simp; go_at_call 224; refine (HA.out _).mono ?_; rintro e w6 ⟨rfl, hb6⟩; have M6 := yab (ycj.call (p := True) ⟨G5.out.mine.drew, trivial⟩ hb6); have th7 := M6.out.there; have G6 := yab (G5.out.below ⟨hb6.os, hb6.tape, hb6.output, hb6.size, hb6.block⟩); obtain ⟨q0, q1, q2, q3, q4, q5, q6, q7⟩ := G6.out.cells; clear hb6; dsimp only))
    all_goals
     go_wp2
     exact bodyPost_ret (yam Tryz.results222 (a := ⟨w.heap.size, 0, none⟩) rfl (yan (cs := [_, _, _, _, _, _, _, _, _]) M6.out.there Tryz.underlying193 rfl ygc)) rfl (RT.out _ _ (ycj.setCells (p := True) ⟨M6.out, trivial⟩ 0 _).below rfl)
theorem yxp (B o C : Nat) (fs : List Bs) (hl : fs.length ≤ 6) (hs : ∀ p ∈ fs, p.length ≤ 10000000) (n : Nat) (h1 : 1 ≤ n) (h6 : n ≤ 6) (w : World) (hF : FldO w B o fs) (hg : yez w) :
  Calls Tryz.prog 222 #[.slice (some ⟨B, o, none⟩) fs.length C, .int .i64 n] w fun e w' => ∃ R : Rec, e = .returned (.tuple #[ybb R, .bool (yds n fs).isSome]) ∧ (∀ f, yds n fs = some f → fIs R f) ∧ Below w.heap.size w w' := by
 match fs, hl, hs, hF with
 |[a, b, c], _, hs, hF => exact yrj B o C a b c (hs a (by simp)) (hs b (by simp)) (hs c (by simp)) n h1 h6 w hF hg
 |[a], _, _, hF => exact yxq B o C [a] rfl n w hF
 |[], hl, _, _ => exact yie B o C [] (by simp) (by simp) hl n w
 |[a, b], hl, _, _ => exact yie B o C [a, b] (by simp) (by simp) hl n w
 |a :: b :: c :: d :: r, hl, _, _ => exact yie B o C (a :: b :: c :: d :: r) (by simp) (by simp) hl n w
end Go.Proofs.K

namespace Go.Proofs.K
open Go.RowKit Go.Lib
theorem ysp (c : UInt8) : ∀ (k : Nat) (s : Bs), (splitK [c] 0 k s).length = min (k + 1) (s.count c + 1)
 |0, s => by simp [splitK]
 |k + 1, s => by
  rcases yje c s with ⟨_, q⟩ | ⟨a, b, h1, h2, _⟩
  ·rw [yky c _ s q, List.count_eq_zero_of_not_mem q]
   simp
  ·rw [h1, ymz c k a b h2, List.length_cons, ysp c k b, List.count_append, List.count_eq_zero_of_not_mem h2, List.count_cons_self]
   omega
theorem yht (t : Bs) : ybu 32 (yak t) = ydb t := yic 32 _ _
theorem ywp (ps : List Bs) (h0 : ps ≠ []) (h6 : ps.length ≤ 6) (h : ∀ p ∈ ps, (32 : UInt8) ∉ p) : splitN (ybu 32 ps) [32] 6 = ps := by
 unfold splitN
 have := yqf 32 ps
 have h1 : 0 < ps.length := List.length_pos_iff.2 h0
 exact yps 32 ps _ h0 h (by omega)
theorem yfl (t : Bs) : (ydb t = t ∧ ybi t = [] ∧ (10 : UInt8) ∉ t) ∨ (t = ydb t ++ 10 :: ybi t ∧ (10 : UInt8) ∉ ydb t) := by
 unfold ydb ybi
 rcases yje 10 t with ⟨_, q⟩ | ⟨a, b, h1, h2, _⟩
 ·rw [yts 10 t q]
  exact .inl ⟨rfl, rfl, q⟩
 ·rw [h1, yoz 10 a b h2]
  exact .inr ⟨rfl, h2⟩
theorem line_of (a b : Bs) (h : (10 : UInt8) ∉ a) : ydb (a ++ 10 :: b) = a ∧ ybi (a ++ 10 :: b) = b := by
 unfold ydb ybi
 rw [yoz 10 a b h]
 exact ⟨rfl, rfl⟩
theorem yyu (a : Bs) (h : (10 : UInt8) ∉ a) : a.takeWhile (fun c => c != 10) = a := by
 have := List.takeWhile_append_of_pos (p := fun c : UInt8 => c != 10) (l₁ := a) (l₂ := []) (fun c hc => by simp only [bne_iff_ne, ne_eq]; rintro rfl; exact h hc)
 simpa using this
theorem blanks_line (t : Bs) : yeb t = (ydb t).count 32 := by
 unfold yeb
 rcases yfl t with ⟨h1, _, h3⟩ | ⟨h1, h2⟩
 ·rw [h1, yyu t h3]
 ·generalize ydb t = a at *
  rw [h1, List.takeWhile_append_of_pos (fun c hc => by simp only [bne_iff_ne, ne_eq]; rintro rfl; exact h2 hc)]
  simp
theorem yms (t : Bs) : (yak t).length = min 6 (yeb t + 1) := by
 unfold yak splitN
 rw [ysp, blanks_line]
 have := List.count_le_length (a := (32 : UInt8)) (l := ydb t)
 omega
def ymy (t : Bs) : Prop := t = [] ∨ ∃ a, t = a ++ [10]
theorem nl_line {t : Bs} (h : ymy t) (h0 : t ≠ []) : t = ydb t ++ 10 :: ybi t ∧ (10 : UInt8) ∉ ydb t := by
 rcases yfl t with ⟨_, _, h3⟩ | q
 ·rcases h with h | ⟨a, h⟩
  ·exact absurd h h0
  ·exact absurd (by rw [h]; simp) h3
 ·exact q
theorem ypk {a b : Bs} (h : ymy (a ++ b)) : ymy b := by
 rcases List.eq_nil_or_concat b with rfl | ⟨b', x, rfl⟩
 ·exact .inl rfl
 ·refine .inr ⟨b', ?_⟩
  rcases h with h | ⟨c, h⟩
  ·simp at h
  ·rw [List.concat_eq_append, ← List.append_assoc] at h
   have := List.append_inj_right' h rfl
   rw [List.concat_eq_append, this]
theorem yuq {t : Bs} (h : ymy t) : ymy (ybi t) := by
 rcases yfl t with ⟨_, h2, _⟩ | ⟨q, _⟩
 ·exact .inl h2
 ·rw [q] at h
  exact ypk (a := ydb t ++ [10]) (by simpa using h)
def DS.flds (d : DS) : List Bs := yba d.known :: (if d.there = true then [decDigits d.by_ ++ 58 :: decDigits d.num, yba d.chg, 61 :: yir d.text] else [[45]])
def DS.born (d : DS) : Prop := d.there = true → 1 ≤ d.num ∧ d.num ≤ d.chg.getD d.by_ 0
theorem flds_T (p : Bs) (d : DS) : p ++ d.T = ybu 32 (p :: d.flds) ++ [10] := by
 unfold DS.flds DS.T
 cases d.there with
 |true => simp [ybu, DS.tail]
 |false => simp [ybu]
theorem hexT_mem (t : Bs) (c : UInt8) (h : c ∈ yir t) : c.toNat ≠ 10 ∧ c.toNat ≠ 32 := by
 unfold yir at h
 rw [List.mem_flatten] at h
 obtain ⟨l, hl, hc⟩ := h
 obtain ⟨x, _, rfl⟩ := List.mem_map.1 hl
 have hx := x.toNat_lt
 simp only [List.mem_cons, List.not_mem_nil, or_false] at hc
 rcases hc with rfl | rfl
 ·exact hexd_ne ⟨x.toNat / 16, by omega⟩
 ·exact hexd_ne ⟨x.toNat % 16, by omega⟩
theorem yvu (l : List Nat) : (10 : UInt8) ∉ yba l ∧ (32 : UInt8) ∉ yba l := by
 constructor
 ·intro h
  rcases ymf l _ h with e | e
  ·exact absurd e (by decide)
  ·exact absurd e (by decide)
 ·intro h
  rcases ymf l _ h with e | e
  ·exact absurd e (by decide)
  ·exact absurd e (by decide)
theorem flds_no (d : DS) : ∀ p ∈ d.flds, (10 : UInt8) ∉ p ∧ (32 : UInt8) ∉ p := by
 intro p hp
 unfold DS.flds at hp
 rcases List.mem_cons.1 hp with rfl | hp
 ·exact yvu _
 ·split at hp
  ·simp only [List.mem_cons, List.not_mem_nil, or_false] at hp
   rcases hp with rfl | rfl | rfl
   ·constructor
    ·intro h
     rcases List.mem_append.1 h with h | h
     ·exact ynm _ 10 (by decide) h
     ·rcases List.mem_cons.1 h with h | h
      ·exact absurd h (by decide)
      ·exact ynm _ 10 (by decide) h
    ·intro h
     rcases List.mem_append.1 h with h | h
     ·exact ynm _ 32 (by decide) h
     ·rcases List.mem_cons.1 h with h | h
      ·exact absurd h (by decide)
      ·exact ynm _ 32 (by decide) h
   ·exact yvu _
   ·constructor
    ·intro h
     rcases List.mem_cons.1 h with h | h
     ·exact absurd h (by decide)
     ·exact (hexT_mem _ _ h).1 rfl
    ·intro h
     rcases List.mem_cons.1 h with h | h
     ·exact absurd h (by decide)
     ·exact (hexT_mem _ _ h).2 rfl
  ·simp only [List.mem_cons, List.not_mem_nil, or_false] at hp
   rw [hp]
   decide
theorem sepBy_no (c x : UInt8) (hx : x ≠ c) : ∀ ps : List Bs, (∀ p ∈ ps, x ∉ p) → x ∉ ybu c ps := by
 intro ps h q
 cases ps with
 |nil => simp [ybu] at q
 |cons p ps =>
  unfold ybu at q
  rcases List.mem_append.1 q with q | q
  ·exact h p (by simp) q
  ·rw [List.mem_flatten] at q
   obtain ⟨l, hl, hc⟩ := q
   obtain ⟨y, hy, rfl⟩ := List.mem_map.1 hl
   rcases List.mem_cons.1 hc with hc | hc
   ·exact hx hc
   ·exact h y (by simp [hy]) hc
theorem flds_len (d : DS) : 2 ≤ d.flds.length ∧ d.flds.length ≤ 4 := by
 unfold DS.flds
 split <;> simp
def dsOf (n : Nat) (k : List Nat) : Option yqw → DS
 |none => ⟨k, false, 0, 0, List.replicate n 0, []⟩
 |some f => ⟨k, true, f.br, f.bn, f.ch, f.text⟩
def yxt (n : Nat) : List Bs → Option DS
 |[] => none
 |a :: fs => (yby n a).bind fun k => (yds n fs).bind fun f => some (dsOf n k f)
theorem yvd (n : Nat) (hn : 1 ≤ n) (h6 : n ≤ 6) (fs : List Bs) (d : DS) : yxt n fs = some d ↔ d.ok n ∧ d.born ∧ fs = d.flds := by
 constructor
 ·intro h
  cases fs with
  |nil => cases h
  |cons a fs =>
   unfold yxt at h
   obtain ⟨k, h1, h⟩ := Option.bind_eq_some_iff.1 h
   obtain ⟨f, h2, h⟩ := Option.bind_eq_some_iff.1 h
   obtain ⟨a1, a2, rfl⟩ := (yhm n hn a k).1 h1
   cases f with
   |none =>
    cases h
    have e := (ysb n fs).1 h2
    refine ⟨⟨a1, a2, fun q => absurd (show false = true from q) (by decide), fun _ => ⟨rfl, rfl, rfl, rfl⟩⟩, fun q => absurd (show false = true from q) (by decide), ?_⟩
    rw [e]
    rfl
   |some f =>
    cases h
    obtain ⟨b1, b2, b3, b4, b5, b6, b7, e⟩ := (ysc n hn h6 fs f).1 h2
    refine ⟨⟨a1, a2, fun _ => ⟨b1, b3, b4, b5, b6⟩, fun q => absurd (show true = false from q) (by decide)⟩, fun _ => ⟨b2, b7⟩, ?_⟩
    rw [e]
    rfl
 ·rintro ⟨h1, h2, rfl⟩
  obtain ⟨kn, th, by_, num, chg, text⟩ := d
  have ht := (yhm n hn (yba kn) kn).2 ⟨h1.kl, h1.kb, rfl⟩
  cases th with
  |true =>
   have hf := (ysc n hn h6 [decDigits by_ ++ 58 :: decDigits num, yba chg, 61 :: yir text] ⟨text, by_, num, chg⟩).2
    ⟨(h1.yes rfl).1, (h2 rfl).1, (h1.yes rfl).2.1, (h1.yes rfl).2.2.1, (h1.yes rfl).2.2.2.1, (h1.yes rfl).2.2.2.2, (h2 rfl).2, rfl⟩
   show ((yby n (yba kn)).bind fun k => (yds n [decDigits by_ ++ 58 :: decDigits num, yba chg, 61 :: yir text]).bind fun f => some (dsOf n k f)) = _
   rw [ht, hf]
   rfl
  |false =>
   have hf := (ysb n [[45]]).2 rfl
   obtain ⟨e1, e2, e3, e4⟩ := h1.none rfl
   simp only at e1 e2 e3 e4
   subst e1 e2 e3 e4
   show ((yby n (yba kn)).bind fun k => (yds n [[45]]).bind fun f => some (dsOf n k f)) = _
   rw [ht, hf]
   rfl
def ybl (d : DS) : Rec := ⟨yaf d.text, d.by_, d.num, lfn d.chg, lfn d.known⟩
def toE (D : Drs) : yau := D.map (fun y => (y.1, ybl y.2))
def leB (a b : Nat → Int) : Bool := eqT (yac a b) b
def yfb (s : Nat) (cm : Nat → Int) (R : Rec) : Bool := decide (R.kn s = cm s) && (eqT (yac R.ch R.kn) R.kn && (decide (0 < R.bn) || !eqT R.kn cm))
def ygr (n s : Nat) (cm : Nat → Int) : Nat → Bs → ByteArray → Option (Bs × Drs)
 |0, _, _ => none
 |f + 1, t, last => if (yak t).length < 3 then some (t, []) else
   (yxt n (yak t).tail).bind fun d => if (ybm (yaf ((yak t).headD [])) && slt last (yaf ((yak t).headD [])) && yfb s cm (ybl d)) = true then
    (ygr n s cm f (ybi t) (yaf ((yak t).headD []))).map fun x => (x.1, (yaf ((yak t).headD []), d) :: x.2) else none
theorem flds_line (p : ByteArray) (hp : ybm p = true) (d : DS) (R : Bs) : ydb (bs p ++ (d.T ++ R)) = ybu 32 (bs p :: d.flds) ∧ ybi (bs p ++ (d.T ++ R)) = R ∧ yak (bs p ++ (d.T ++ R)) = bs p :: d.flds := by
 have hpl := yso p hp
 have p10 : (10 : UInt8) ∉ bs p := fun h => by have := hpl.1 _ h; simp at this
 have p32 : (32 : UInt8) ∉ bs p := fun h => by have := List.count_pos_iff.2 h; omega
 have hno : ∀ q ∈ bs p :: d.flds, (10 : UInt8) ∉ q ∧ (32 : UInt8) ∉ q := fun q hq => by
  rcases List.mem_cons.1 hq with rfl | hq
  ·exact ⟨p10, p32⟩
  ·exact flds_no d q hq
 have e : bs p ++ (d.T ++ R) = ybu 32 (bs p :: d.flds) ++ 10 :: R := by
  rw [← List.append_assoc, flds_T]
  simp
 have hl := line_of (ybu 32 (bs p :: d.flds)) R (sepBy_no 32 10 (by decide) _ (fun q hq => (hno q hq).1))
 rw [← e] at hl
 refine ⟨hl.1, hl.2, ?_⟩
 unfold yak
 rw [hl.1]
 exact ywp _ (by simp) (by have := (flds_len d).2; simp; omega) (fun q hq => (hno q hq).2)
theorem yxw (n s : Nat) (hn : 1 ≤ n) (h6 : n ≤ 6) (cm : Nat → Int) : ∀ (f : Nat) (t : Bs) (last : ByteArray) (R : Bs) (D : Drs), ymy t → t.length < f →
  (ygr n s cm f t last = some (R, D) ↔ t = ylj D ++ R ∧ yeb R < 2 ∧ okDrs n D ∧ (∀ y ∈ D, y.2.born ∧ yfb s cm (ybl y.2) = true) ∧ ∀ y ∈ D, slt last y.1 = true) := by
 intro f
 induction f with
 |zero => intro t last R D _ hf; omega
 |succ f ih =>
  intro t last R D hnl hf
  have hlen := yms t
  unfold ygr
  by_cases h3 : (yak t).length < 3
  ·rw [if_pos h3]
   have hb : yeb t < 2 := by omega
   constructor
   ·intro h
    cases h
    exact ⟨rfl, hb, okDrs_nil n, by simp, by simp⟩
   ·rintro ⟨rfl, h2, h3', h4, h5⟩
    cases D with
    |nil => rfl
    |cons y D =>
     obtain ⟨p, d⟩ := y
     rw [ylk, List.append_assoc, List.append_assoc] at hb
     have := line_rec p d (ylj D ++ R) (h3'.paths (p, d) (by simp))
     omega
  ·rw [if_neg h3]
   have hb : 2 ≤ yeb t := by omega
   constructor
   ·intro h
    obtain ⟨d, hd, h⟩ := Option.bind_eq_some_iff.1 h
    split at h
    ·rename_i hc
     simp only [Bool.and_eq_true] at hc
     obtain ⟨⟨c1, c2⟩, c3⟩ := hc
     obtain ⟨x, hx, h⟩ := Option.map_eq_some_iff.1 h
     obtain ⟨R', D'⟩ := x
     cases h
     have ht0 : t ≠ [] := by rintro rfl; simp [yeb] at hb
     obtain ⟨q1, q2⟩ := nl_line hnl ht0
     have hrl : (ybi t).length < f := by have := congrArg List.length q1; simp at this; omega
     obtain ⟨i1, i2, i3, i4, i5⟩ := (ih (ybi t) _ _ D' (yuq hnl) hrl).1 hx
     obtain ⟨r1, r2, r3⟩ := (yvd n hn h6 _ d).1 hd
     have hfs : yak t = bs (yaf ((yak t).headD [])) :: d.flds := by
      rw [yah, ← r3]
      cases hh : yak t with
      |nil => rw [hh] at h3; simp at h3
      |cons a l => rfl
     generalize yaf ((yak t).headD []) = p at *
     have et : t = bs p ++ (d.T ++ ybi t) := by
      rw [← List.append_assoc, flds_T, ← hfs, yht]
      simpa using q1
     have hall : ∀ y ∈ (p, d) :: D', y.2.born ∧ yfb s cm (ybl y.2) = true := fun y hy => by
      rcases List.mem_cons.1 hy with rfl | hy
      ·exact ⟨r2, c3⟩
      ·exact i4 y hy
     refine ⟨?_, i2, ⟨?_, ?_, ?_⟩, hall, ?_⟩
     ·rw [ylk, List.append_assoc, List.append_assoc, ← i1]
      exact et
     ·intro y hy
      rcases List.mem_cons.1 hy with rfl | hy
      ·exact c1
      ·exact i3.paths y hy
     ·intro y hy
      rcases List.mem_cons.1 hy with rfl | hy
      ·exact r1
      ·exact i3.oks y hy
     ·rw [List.pairwise_cons]
      exact ⟨fun y hy => i5 y hy, i3.rise⟩
     ·intro y hy
      rcases List.mem_cons.1 hy with rfl | hy
      ·exact c2
      ·exact ydx c2 (i5 y hy)
    ·cases h
   ·rintro ⟨rfl, h2, h3', h4, h5⟩
    cases D with
    |nil =>
     simp only [ylj, List.map_nil, List.flatten_nil, List.nil_append] at hb
     omega
    |cons y D =>
     obtain ⟨p, d⟩ := y
     have hp := h3'.paths (p, d) (by simp)
     have e : ylj ((p, d) :: D) ++ R = bs p ++ (d.T ++ (ylj D ++ R)) := by rw [ylk, List.append_assoc, List.append_assoc]
     obtain ⟨l1, l2, l3⟩ := flds_line p hp d (ylj D ++ R)
     rw [e] at hnl hf ⊢
     have hp0 : 0 < (bs p).length := by
      unfold ybm at hp
      rw [yax]
      simp only [Bool.and_eq_true, decide_eq_true_eq] at hp
      omega
     have I := (ih (ylj D ++ R) p R D (ypk (a := bs p ++ d.T) (by simpa using hnl)) (by simp at hf ⊢; omega)).2
      ⟨rfl, h2, ⟨fun y hy => h3'.paths y (List.mem_cons_of_mem _ hy), fun y hy => h3'.oks y (List.mem_cons_of_mem _ hy), (List.pairwise_cons.1 h3'.rise).2⟩, fun y hy => h4 y (List.mem_cons_of_mem _ hy), fun y hy => (List.pairwise_cons.1 h3'.rise).1 y hy⟩
     rw [l2, l3, List.tail_cons, List.headD_cons, ofBs_bs, (yvd n hn h6 _ d).2 ⟨h3'.oks (p, d) (by simp), (h4 (p, d) (by simp)).1, rfl⟩]
     simp only [Option.bind_some]
     rw [if_pos (by simp only [Bool.and_eq_true]; exact ⟨⟨hp, h5 (p, d) (by simp)⟩, (h4 (p, d) (by simp)).2⟩), I]
     rfl
theorem ycp : (Tryz.prog.info? 197).map (·.size) = some 15 := by kernel_rfl
theorem ymd (p v : Value) : Instr.storeAt 197 p v = stM 197 p v := rfl
theorem yeu (w : World) (b o : Nat) (t : ByteArray) (x0 x1 x2 x3 x4 x5 x6 x7 x8 x9 x10 x11 x12 x13 : Int) (ht : w.there b o 15) :
  (stM 197 (.pointer (some ⟨b, o, none⟩)) (.agg #[.string t, .int .i64 x0, .int .i64 x1, .int .i64 x2, .int .i64 x3, .int .i64 x4, .int .i64 x5, .int .i64 x6, .int .i64 x7, .int .i64 x8, .int .i64 x9, .int .i64 x10, .int .i64 x11, .int .i64 x12, .int .i64 x13])).run Tryz.prog w = .ok () (w.setCells b o [.string t, .int .i64 x0, .int .i64 x1, .int .i64 x2, .int .i64 x3, .int .i64 x4, .int .i64 x5, .int .i64 x6, .int .i64 x7, .int .i64 x8, .int .i64 x9, .int .i64 x10, .int .i64 x11, .int .i64 x12, .int .i64 x13]) :=
 run_storeAt_mid w b o _ #[.string t, .int .i64 x0, .int .i64 x1, .int .i64 x2, .int .i64 x3, .int .i64 x4, .int .i64 x5, .int .i64 x6, .int .i64 x7, .int .i64 x8, .int .i64 x9, .int .i64 x10, .int .i64 x11, .int .i64 x12, .int .i64 x13] ht ycp (by simp [Value.oneCell'])
theorem lfn_zero (n : Nat) : lfn (List.replicate n 0) = fun _ => 0 := by
 funext j
 unfold lfn
 rw [List.getD_eq_getElem?_getD, List.getElem?_replicate]
 split <;> rfl
theorem fIs_rec {n : Nat} {k : List Nat} {f : Option yqw} {R : Rec} (h : fIs R f) : (⟨R.text, R.br, R.bn, R.ch, lfn k⟩ : Rec) = ybl (dsOf n k f) := by
 cases f with
 |none =>
  obtain ⟨h1, h2, h3, h4⟩ := h
  unfold ybl dsOf
  simp only [h1, h2, h3, h4, lfn_zero]
  rfl
 |some f =>
  obtain ⟨h1, h2, h3, h4⟩ := h
  unfold ybl dsOf
  simp only [h1, h2, h3, h4]
theorem keep6 {w1 w3 : World} {f : Nat → Int} {ty : TypeId} (hb : Below (w1.alloc (.cells #[.int .i64 (f 0), .int .i64 (f 1), .int .i64 (f 2), .int .i64 (f 3), .int .i64 (f 4), .int .i64 (f 5)] ty)).heap.size (w1.alloc (.cells #[.int .i64 (f 0), .int .i64 (f 1), .int .i64 (f 2), .int .i64 (f 3), .int .i64 (f 4), .int .i64 (f 5)] ty)) w3) (j : Nat) (hj : j < 6) (o' : Obj) : (w3.alloc o').cell? ⟨w1.heap.size, j, none⟩ = some (.int .i64 (f j)) := by
 have hz := hb.size
 simp at hz
 rw [World.cell?_alloc_old _ _ _ (by simp only; omega), hb.cell (by simp)]
 exact ynl w1 f ty j hj
attribute [local go_sem ↓] ymd
attribute [local go_sem] yeu
theorem yrk (B o C : Nat) (a : Bs) (fs : List Bs) (hl : fs.length ≤ 5) (hl1 : 1 ≤ fs.length) (hC : fs.length + 1 ≤ C) (hs : ∀ p ∈ a :: fs, p.length ≤ 10000000) (n : Nat) (h1 : 1 ≤ n) (h6 : n ≤ 6) (w : World) (hF : FldO w B o (a :: fs)) (hg : yez w) :
  Calls Tryz.prog 196 #[.slice (some ⟨B, o, none⟩) (fs.length + 1) C, .int .i64 n] w fun e w' => ∃ R : Rec, e = .returned (.tuple #[yad R, .bool (yxt n (a :: fs)).isSome]) ∧ (∀ d, yxt n (a :: fs) = some d → R = ybl d) ∧ Below w.heap.size w w' := by
 have M0 := yab (ycj.made' w #[.string ⟨#[]⟩, .int .i64 0, .int .i64 0, .int .i64 0, .int .i64 0, .int .i64 0, .int .i64 0, .int .i64 0, .int .i64 0, .int .i64 0, .int .i64 0, .int .i64 0, .int .i64 0, .int .i64 0, .int .i64 0] 197 (n := 15) rfl)
 have CT : Hid (∀ W, ycj w w.heap.size 15 W → Calls Tryz.prog 146 #[.string (yaf a), .int .i64 n] W fun e w' => e = .returned (.tuple #[ygt (lfn ((yby n a).getD [])), .bool (yby n a).isSome]) ∧ ycj w w.heap.size 15 w') := fun W hW => by
  have := yiv (yaf a) (by rw [yal]; exact hs a (by simp)) n h1 h6 W (hg.below hW.below)
  rw [yah] at this
  exact this.mono (fun e w' ⟨q, r⟩ => ⟨q, ycj.call (p := True) ⟨hW, trivial⟩ r⟩)
 have CF : Hid (∀ W, ycj w w.heap.size 15 W → Calls Tryz.prog 222 #[.slice (some ⟨B, o + 1, none⟩) fs.length (C - 1), .int .i64 n] W fun e w' => ∃ R : Rec, e = .returned (.tuple #[ybb R, .bool (yds n fs).isSome]) ∧ (∀ f, yds n fs = some f → fIs R f) ∧ ycj w w.heap.size 15 w' ∧ Below W.heap.size W w') := fun W hW => by
  have hF' : FldO W B (o + 1) fs := ⟨fun j p hp => by
   have := (hF.below hW.below).pc (j + 1) p (by simpa using hp)
   rw [show o + 1 + j = o + (j + 1) by omega]
   exact this, (hF.below hW.below).lt⟩
  refine (yxp B (o + 1) (C - 1) fs (by omega) (fun p hp => hs p (List.mem_cons_of_mem _ hp)) n h1 h6 W hF' (hg.below hW.below)).mono ?_
  rintro e w' ⟨R, rfl, h2, h3⟩
  exact ⟨R, rfl, h2, ycj.call (p := True) ⟨hW, trivial⟩ h3, h3⟩
 have RT : Hid (∀ (W : World) (R : Rec), Below w.heap.size w W → (∀ f, yds n fs = some f → fIs R f) → ∃ R' : Rec, Ending.returned (.tuple #[.agg #[.string R.text, .int .i64 R.br, .int .i64 R.bn, .int .i64 (R.ch 0), .int .i64 (R.ch 1), .int .i64 (R.ch 2), .int .i64 (R.ch 3), .int .i64 (R.ch 4), .int .i64 (R.ch 5), .int .i64 (lfn ((yby n a).getD []) 0), .int .i64 (lfn ((yby n a).getD []) 1), .int .i64 (lfn ((yby n a).getD []) 2), .int .i64 (lfn ((yby n a).getD []) 3), .int .i64 (lfn ((yby n a).getD []) 4), .int .i64 (lfn ((yby n a).getD []) 5)], .bool ((yby n a).isSome && (yds n fs).isSome)]) = .returned (.tuple #[yad R', .bool (yxt n (a :: fs)).isSome]) ∧ (∀ d, yxt n (a :: fs) = some d → R' = ybl d) ∧ Below w.heap.size w W) := fun W R hW hR => by
  have e : yxt n (a :: fs) = (yby n a).bind fun k => (yds n fs).bind fun f => some (dsOf n k f) := rfl
  refine ⟨⟨R.text, R.br, R.bn, R.ch, lfn ((yby n a).getD [])⟩, ?_, fun d hd => ?_, hW⟩
  ·rw [e]
   cases yby n a with
   |none => rfl
   |some k => cases yds n fs <;> rfl
  ·rw [e] at hd
   obtain ⟨k, hk, hd⟩ := Option.bind_eq_some_iff.1 hd
   obtain ⟨f, hf, hd⟩ := Option.bind_eq_some_iff.1 hd
   cases hd
   rw [hk]
   exact fIs_rec (hR f hf)
 have ga := (hF.below M0.out.below).pc 0 a rfl
 rw [Nat.add_zero] at ga
 clear hF hg
 generalize (yby n a).isSome = z1 at *
 generalize lfn ((yby n a).getD []) = f at *
 generalize yxt n (a :: fs) = RR at *
 generalize hz2 : (yds n fs).isSome = z2 at *
 generalize yaf a = sa at *
 clear hz2
 unfold ygt at CT
 unfold ybb at CF
 have hC1 : ¬ C = 1 := by omega
 generalize hL : fs.length = L at *
 clear hL
 cases z1
 all_goals
  go_enter Tryz.func196, Tryz.ntmps196
  go_wp2_with (first
   |(go_at_call 146; refine (CT.out _ M0.out).mono ?_; rintro e w1 ⟨rfl, hm1⟩; have M1 := yab hm1; clear hm1)
   |(go_at_call 222; refine (CF.out _ (M1.out.alloc _)).mono ?_; rintro e w3 ⟨R, rfl, hR, hm3, hb3⟩; have M3 := yab hm3; have HR := yab hR; have t0 := keep6 hb3 0 (by omega); have t1 := keep6 hb3 1 (by omega); have t2 := keep6 hb3 2 (by omega); have t3 := keep6 hb3 3 (by omega); have t4 := keep6 hb3 4 (by omega); have t5 := keep6 hb3 5 (by omega); have th3 := fun o' => (M3.out.alloc o').there; clear hm3 hR hb3))
  all_goals
   exact bodyPost_ret (yam Tryz.results196 (a := ⟨w.heap.size, 0, none⟩) rfl (yan (cs := [_, _, _, _, _, _, _, _, _, _, _, _, _, _, _]) (M3.out.alloc _).there Tryz.underlying197 rfl ycp)) rfl (RT.out _ R (ycj.setCells (p := True) ⟨M3.out.alloc _, trivial⟩ 0 _).below HR.out)
end Go.Proofs.K

namespace Go.Proofs.K
open Go.RowKit Go.Lib
theorem split_cap (c : UInt8) (s : ByteArray) (m : Nat) (hm : 1 ≤ m) (hm6 : m ≤ 1000) (hs : s.size ≤ 10000000) (w : World) (hg : yez w) :
  Calls Tryz.prog 195 #[.string s, .string ⟨#[c]⟩, .int .i64 m] w fun e w' => ∃ C, e = .returned (.slice (some ⟨w.heap.size, 0, none⟩) (splitN (bs s) [c] m).length C) ∧ (∀ (j : Nat) p, (splitN (bs s) [c] m)[j]? = some p → w'.cell? ⟨w.heap.size, j, none⟩ = some (.string (yaf p))) ∧ w.heap.size < w'.heap.size ∧ Below w.heap.size w w' ∧ (splitN (bs s) [c] m).length ≤ C := by
 obtain ⟨mx, hmx⟩ := hg.max
 refine (Tryz.strings_SplitN s ⟨#[c]⟩ m mx w (by omega) hmx (Nat.le_refl 1) hm (by omega)).mono ?_
 rintro e w' ⟨rfl, rfl⟩
 have hd := splitB_data (⟨#[c]⟩ : ByteArray) 0 (min m (s.size + 1) - 1) s
 have hd' : (splitB ⟨#[c]⟩ 0 (min m (s.size + 1) - 1) s).map (·.data.toList) = splitN (bs s) [c] m := by
  rw [hd]
  unfold splitN
  rw [yax]
  rfl
 have hle := splitB_length_le (⟨#[c]⟩ : ByteArray) 0 (min m (s.size + 1) - 1) s
 generalize splitB ⟨#[c]⟩ 0 (min m (s.size + 1) - 1) s = ps at *
 refine ⟨min m (s.size + 1), ?_, fun j p hp => ?_, by simp, (Below.refl _ _).alloc (Nat.le_refl _) _, ?_⟩
 ·rw [← hd', List.length_map]
 ·rw [← hd', List.getElem?_map] at hp
  obtain ⟨q, hq, rfl⟩ := Option.map_eq_some_iff.1 hp
  have hj := (List.getElem?_eq_some_iff.1 hq).1
  simp only [World.cell?, heap_alloc_new, cellsOf]
  rw [List.getElem?_toArray, List.getElem?_append_left (by simpa using hj), List.getElem?_map, hq]
  rfl
 ·rw [← hd', List.length_map]
  omega
theorem yoy (t : ByteArray) (ht : t.size ≤ 10000000) (w : World) (hg : yez w) :
  Calls Tryz.prog 145 #[.string t] w fun e w' => ∃ B C, e = .returned (.tuple #[.slice (some ⟨B, 0, none⟩) (yak (bs t)).length C, .string (yaf (ybi (bs t)))]) ∧ Flds w' B (yak (bs t)) ∧ w.heap.size ≤ B ∧ Below w.heap.size w w' ∧ (yak (bs t)).length ≤ C := by
 have CU : Hid (Calls Tryz.prog 79 #[.string t, .string ⟨#[10]⟩] w fun e w' => e = .returned (.tuple #[.string (yaf (ydb (bs t))), .string (yaf (ybi (bs t))), .bool (Lib.cut (bs t) [10]).2.2]) ∧ ∃ n, w' = w.drewN n) := cut_any 10 t ht w hg
 have SP : Hid (∀ m, Calls Tryz.prog 195 #[.string (yaf (ydb (bs t))), .string ⟨#[32]⟩, .int .i64 6] (w.drewN m) fun e w' => ∃ C, e = .returned (.slice (some ⟨w.heap.size, 0, none⟩) (yak (bs t)).length C) ∧ Flds w' w.heap.size (yak (bs t)) ∧ Below w.heap.size w w' ∧ (yak (bs t)).length ≤ C) := fun m => by
  have hb : Below w.heap.size w (w.drewN m) := ⟨rfl, rfl, rfl, Nat.le_refl _, fun _ _ => rfl⟩
  have hsz := (yhr 10 (bs t)).1
  rw [yax] at hsz
  refine (split_cap 32 (yaf (ydb (bs t))) 6 (by omega) (by omega) (by rw [← yax, yah]; unfold ydb; omega) (w.drewN m) (hg.below hb)).mono ?_
  rintro e w' ⟨C, rfl, hpc, hlt, hb', hcp⟩
  rw [yah] at hpc hcp ⊢
  exact ⟨C, rfl, ⟨hpc, hlt⟩, yec hb hb', hcp⟩
 generalize (Lib.cut (bs t) [10]).2.2 = f at *
 generalize yak (bs t) = fs at *
 generalize yaf (ydb (bs t)) = ln at *
 generalize yaf (ybi (bs t)) = rs at *
 clear hg
 go_enter Tryz.func145, Tryz.ntmps145
 go_wp2_with (first
  |(go_at_call 79; refine (CU.out).mono ?_; rintro e w1 ⟨rfl, m, rfl⟩)
  |(go_at_call 195; refine (SP.out m).mono ?_; rintro e w2 ⟨C, rfl, hF, hb, hcp⟩))
 go_ret2
 exact ⟨_, _, rfl, hF, Nat.le_refl _, hb, hcp⟩
end Go.Proofs.K
