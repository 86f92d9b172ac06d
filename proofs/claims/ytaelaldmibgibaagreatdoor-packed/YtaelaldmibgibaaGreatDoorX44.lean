/- The program's teller of a file's text. -/
import Derived.Deep.RegionLawGrows
import Derived.Lib.SlBytesConst
import Derived.Test.YtaelaldmibgibaaGreatDoorX34

set_option linter.all false
set_option maxHeartbeats 4000000
set_option maxRecDepth 100000

namespace Go.Proofs.K
open Go.RowKit Go.Lib
variable {w wr : World} {i : Nat} {u : Bs}
theorem yyq {ops : Array Oper} {o : Oper} {a : Act} {K : Act → World → Prop} {Q : Exit → Act → World → Prop} {E : Prop} (w : World) (hgd : o.guard = none) (s x : Operand) (ho : o.op = .call { callee := .builtin .append, args := #[s, x], argTypes := #[53, 53] }) (base : Nat) (v : Value) (n : Nat) (xs : List Value) (hs : a.eval s = v) (hown : w.ownsRow base 5 1 v n xs)
  (k : Nat) (y0 y1 : Int) (hx : a.eval x = .slice (some ⟨k, 0, none⟩) 2 2) (hc0 : w.cell? ⟨k, 0, none⟩ = some (.int .u8 y0)) (hc1 : w.cell? ⟨k, 1, none⟩ = some (.int .u8 y1)) (hn : n ≤ 1000000000000) (hb : base ≤ w.heap.size)
  (h : ∀ g cap w1, w1.ownsRow base 5 1 (.slice (some ⟨g, 0, none⟩) (n + 2) cap) (n + 2) (xs ++ [.int .u8 y0, .int .u8 y1]) → w.grownBy w1 v.ownBlock → (v.ownBlock = some g ∨ g = w.heap.size) → g < w1.heap.size → K (a.put o.dst (.slice (some ⟨g, 0, none⟩) (n + 2) cap)) w1) :
  if Region.wanted o (yielded ops a.tmps) = true then Oper.wp Tryz.prog o a w K Q else E := by
 obtain ⟨i0, hi, hz0, hz1, hz2⟩ := info_parts info_u8
 refine step_append_lies w hgd s x 53 ho base 5 i0 _ 1 1 Tryz.underlying53 hi hz0 hz1 hz2 rfl (by decide) v n xs hs hown ⟨k, 0, none⟩ 2 2 [.int .u8 y0, .int .u8 y1] hx rfl ?_ ?_ (by omega) (by unfold maxLen; omega) (by omega) hb _ rfl h
 ·intro j u hj
  match j, hj with
  |0, hj => simp at hj; subst hj; simpa [Addr.add] using hc0
  |1, hj => simp at hj; subst hj; simpa [Addr.add] using hc1
 ·intro u hu; simp at hu; rcases hu with rfl | rfl <;> rfl
def dgM (i : Value) : Sem Value := Instr.index 9 (.string ⟨#[48, 49, 50, 51, 52, 53, 54, 55, 56, 57, 97, 98, 99, 100, 101, 102]⟩) i
theorem dgEq (i : Value) : Instr.index 9 (.string ⟨#[48, 49, 50, 51, 52, 53, 54, 55, 56, 57, 97, 98, 99, 100, 101, 102]⟩) i = dgM i := rfl
theorem run_dg (k : Nat) (hk : k < 16) (w : World) : (dgM (.int .u8 (k : Int))).run Tryz.prog w = .ok (.int .u8 ((yuc k).toNat : Int)) w := by
 have h : ∀ k : Fin 16, (dgM (.int .u8 (k.val : Int))).run Tryz.prog w = .ok (.int .u8 ((yuc k.val).toNat : Int)) w := by
  intro k
  have hk := k.isLt
  have : k.val = 0 ∨ k.val = 1 ∨ k.val = 2 ∨ k.val = 3 ∨ k.val = 4 ∨ k.val = 5 ∨ k.val = 6 ∨ k.val = 7 ∨ k.val = 8 ∨ k.val = 9 ∨ k.val = 10 ∨ k.val = 11 ∨ k.val = 12 ∨ k.val = 13 ∨ k.val = 14 ∨ k.val = 15 := by omega
  rcases this with e | e | e | e | e | e | e | e | e | e | e | e | e | e | e | e <;> (rw [e]; exact rfl)
 exact h ⟨k, hk⟩
theorem hexT_snoc (t : Bs) (c : UInt8) : yir (t ++ [c]) = yir t ++ [yuc (c.toNat / 16), yuc (c.toNat % 16)] := by
 unfold yir
 rw [List.map_append, List.flatten_append]
 rfl
attribute [local go_sem ↓] dgEq
attribute [local go_sem] run_dg
structure HX (w wr : World) (v : Value) (i : Nat) (u : Bs) : Prop where
 bel : Below w.heap.size w wr
 val : ∃ g c, v = .slice (some ⟨g, 0, none⟩) u.length c ∧ (∀ (j : Nat) (hj : j < u.length), wr.cell? ⟨g, j, none⟩ = some (.int .u8 (u[j].toNat : Int))) ∧ w.heap.size ≤ g ∧ g < wr.heap.size
 own : (i = 0 ∧ v = .slice (some ⟨w.heap.size, 0, none⟩) 1 1 ∧ u = [61] ∧ wr.cell? ⟨w.heap.size, 0, none⟩ = some (.int .u8 61)) ∨ wr.ownsRow w.heap.size 5 1 v u.length (bvs u)
theorem HX.grown {w3 : World} {v v' : Value} (h : HX w wr v i u) (x y : UInt8) {o : Obj} (ho : w3.ownsRow w.heap.size 5 1 v' (u.length + 2) (bvs u ++ [.int .u8 (x.toNat : Int), .int .u8 (y.toNat : Int)])) (hb : Below w.heap.size w w3) : HX w w3 v' (i + 1) (u ++ [x, y]) := by
 have e : bvs (u ++ [x, y]) = bvs u ++ [.int .u8 (x.toNat : Int), .int .u8 (y.toNat : Int)] := by simp [bvs]
 have hl : (u ++ [x, y]).length = u.length + 2 := by simp
 rw [← e, ← hl] at ho
 refine ⟨hb, ?_, .inr ho⟩
 rcases ho.2 with ⟨_, h0⟩ | ⟨g, cap, cur, rfl, hbase, hg, _⟩
 ·simp at h0
 ·refine ⟨g, cap, rfl, fun j hj => ?_, hbase, (Array.getElem?_eq_some_iff.1 hg).1⟩
  rw [World.ownsRow.cellAt ho j (by omega)]
  unfold bvs
  rw [List.getElem?_map, List.getElem?_eq_getElem hj]
  rfl
theorem HX.conv {g c : Nat} (h : HX w wr (.slice (some ⟨g, 0, none⟩) u.length c) i u) : (convert 53 9 (.slice (some ⟨g, 0, none⟩) u.length c)).run Tryz.prog wr = .ok (.string (yaf u)) wr := by
 obtain ⟨g', c', e, hc, _⟩ := h.val
 simp only [Value.slice.injEq, Option.some.injEq, Addr.mk.injEq, and_true, true_and] at e
 obtain ⟨rfl, rfl⟩ := e
 refine run_convert_bytes_back (P := Tryz.prog) _ 53 9 5 ⟨g, 0, none⟩ c u Tryz.underlying53 Tryz.underlying5 Tryz.underlying9 (fun j hj => ?_)
 have e : (⟨g, 0, none⟩ : Addr).add j = ⟨g, j, none⟩ := by unfold Addr.add; split <;> simp_all
 rw [e]
 exact hc j hj
theorem Hex_any (t : ByteArray) (ht : t.size ≤ 60) (w : World) :
  Calls Tryz.prog 179 #[.string t] w fun e w' => e = .returned (.string (yaf (61 :: yir (bs t)))) ∧ Below w.heap.size w w' := by
 have kc := fun (w : World) (C : Array Value) (n c : Nat) => Lib.run_convert_bytes_const (P := Tryz.prog) w 53 5 C n c Tryz.underlying53 Tryz.underlying5
 have H0 : Hid (HX w (w.alloc (.cells #[.int .u8 61] 5 (1, 2))) (.slice (some ⟨w.heap.size, 0, none⟩) 1 1) 0 (61 :: yir ((bs t).take 0))) := by
  have hc : (w.alloc (.cells #[.int .u8 61] 5 (1, 2))).cell? ⟨w.heap.size, 0, none⟩ = some (.int .u8 61) := by
   simp only [World.cell?, heap_alloc_new]
   rfl
  refine ⟨(Below.refl _ _).alloc (Nat.le_refl _) _, ⟨w.heap.size, 1, rfl, fun j hj => ?_, Nat.le_refl _, by simp⟩, .inl ⟨rfl, rfl, rfl, hc⟩⟩
  match j, hj with
  |0, _ => exact hc
 go_enter Tryz.func179, Tryz.ntmps179
 go_wp2
 clear kc
 go_loopw [3, 9] (fun v iv wr => ∃ i : Nat, i ≤ t.size ∧ iv = .int .i64 i ∧ Hid (HX w wr v i (61 :: yir ((bs t).take i)))) (fun _ iv _ => t.size - (Go.RowKit.intOf iv).toNat)
 case atStart => exact ⟨0, Nat.zero_le _, rfl, H0⟩
 case round =>
  clear H0
  obtain ⟨i, hi, rfl, hH⟩ := hrel
  by_cases hlt : i < t.size
  ·have gx : (bs t)[i]? = some t[i] := by rw [at_bs t i hlt, getElem!_pos t.data i hlt]; rfl
   have TK : Hid (61 :: yir ((bs t).take i) ++ [yuc (t[i].toNat / 16), yuc (t[i].toNat % 16)] = 61 :: yir ((bs t).take (i + 1))) := by
    unfold Hid
    rw [List.take_add_one, gx, Option.toList_some, hexT_snoc]
    rfl
   have hv := t[i].toNat_lt
   have r1 : ∀ W : World, (dgM (.int .u8 (IntKind.u8.wrap ((t[i].toNat : Int) / 16)))).run Tryz.prog W = .ok (.int .u8 ((yuc (t[i].toNat / 16)).toNat : Int)) W := fun W => by
    have e : IntKind.u8.wrap ((t[i].toNat : Int) / 16) = ((t[i].toNat / 16 : Nat) : Int) := by rw [IntKind.wrap_u8]; omega
    rw [e]
    exact run_dg _ (by omega) W
   have r2 : ∀ W : World, (dgM (.int .u8 ((t[i].toNat : Int).tmod 16))).run Tryz.prog W = .ok (.int .u8 ((yuc (t[i].toNat % 16)).toNat : Int)) W := fun W => by
    have e : (t[i].toNat : Int).tmod 16 = ((t[i].toNat % 16 : Nat) : Int) := by rw [Int.tmod_eq_emod_of_nonneg (by omega)]; rfl
    rw [e]
    exact run_dg _ (by omega) W
   generalize yuc (t[i].toNat / 16) = d1 at *
   generalize yuc (t[i].toNat % 16) = d2 at *
   obtain ⟨i0, hi0, hz0, hz1, hz2⟩ := info_parts info_u8
   generalize hu : 61 :: yir ((bs t).take i) = u at *
   rcases hH.out.own with ⟨e0, ev, eu, hc0⟩ | hown
   ·subst ev eu
    clear hu e0
    have hA : Hid (∀ (o : Obj) (b : Addr), some (⟨w.heap.size, 0, none⟩ : Addr) = some b → ∀ (j : Nat) (u : Value), [Value.int .u8 61][j]? = some u → ((wr.alloc o).drew).cell? (b.add j) = some u) := fun o b hb j u hu => by
     cases hb
     match j, hu with
     |0, hu =>
      simp at hu
      subst hu
      show (wr.alloc o).cell? ((⟨w.heap.size, 0, none⟩ : Addr).add 0) = _
      rw [show (⟨w.heap.size, 0, none⟩ : Addr).add 0 = ⟨w.heap.size, 0, none⟩ from rfl, World.cell?_alloc_old _ _ _ (by obtain ⟨g, c, e, _, _, hg⟩ := hH.out.val; simp only [Value.slice.injEq, Option.some.injEq, Addr.mk.injEq, and_true, true_and] at e; obtain ⟨rfl, _⟩ := e; exact Nat.ne_of_lt hg)]
      exact hc0
    have hB : Hid (∀ (j : Nat) (u : Value), [Value.int .u8 (d1.toNat : Int), .int .u8 (d2.toNat : Int)][j]? = some u → ((wr.alloc (.cells #[.int .u8 (d1.toNat : Int), .int .u8 (d2.toNat : Int)] 5)).drew).cell? ((⟨wr.heap.size, 0, none⟩ : Addr).add j) = some u) := fun j u hu => by
     have e : (⟨wr.heap.size, 0, none⟩ : Addr).add j = ⟨wr.heap.size, j, none⟩ := by unfold Addr.add; split <;> simp_all
     rw [e]
     show (wr.alloc (.cells #[.int .u8 (d1.toNat : Int), .int .u8 (d2.toNat : Int)] 5)).cell? _ = _
     simp only [World.cell?, heap_alloc_new]
     simpa using hu
    have hC : Hid (∀ u ∈ [Value.int .u8 (d1.toNat : Int), .int .u8 (d2.toNat : Int)], u.oneCell' = true) := fun u hu => by
     simp at hu
     rcases hu with rfl | rfl <;> rfl
    have HB : Hid (∀ (o : Obj) (w3 : World), ((wr.alloc o).drew).grownBy w3 none → Below w.heap.size w w3) := fun o w3 hg => ((hH.out.bel.alloc hH.out.bel.size o).drew).grown hg (by have := hH.out.bel.size; show w.heap.size ≤ (wr.alloc o).heap.size; simp; omega) (fun k hk => by cases hk)
    have NX : Hid (∀ (w3 : World) (v' : Value), w3.ownsRow w.heap.size 5 1 v' 3 ([Value.int .u8 61] ++ [.int .u8 (d1.toNat : Int), .int .u8 (d2.toNat : Int)]) → Below w.heap.size w w3 → HX w w3 v' (i + 1) (61 :: yir ((bs t).take (i + 1)))) := fun w3 v' ho hb => by
     have := hH.out.grown (o := .cells #[] 0) d1 d2 (v' := v') (w3 := w3) ho hb
     rw [TK.out] at this
     exact this
    clear hc0
    go_wp2_with fail
    go_region_law (first
     |(refine step_append_grows rfl (.tmp 12) (.tmp 23) 53 rfl 5 i0 _ 1 1 Tryz.underlying53 hi0 hz0 hz1 hz2 rfl (by decide) (some ⟨w.heap.size, 0, none⟩) 1 1 [.int .u8 61] (by rfl) (by intro h; cases h) rfl (hA.out _) ⟨wr.heap.size, 0, none⟩ 2 2 [.int .u8 (d1.toNat : Int), .int .u8 (d2.toNat : Int)] (by rfl) rfl hB.out hC.out (by omega) (by unfold maxLen; omega) (by omega) ?_; intro v3 w3 ho3 hg3; have N3 := yab (NX.out w3 v3 (ydp ho3 (fun k hk => Nat.le_trans (by have := hH.out.bel.size; show w.heap.size ≤ (wr.alloc _).heap.size; simp; omega) (World.ownsRow.lt ho3 k hk).1)) (HB.out _ w3 hg3)); clear ho3 hg3; dsimp only))
    all_goals
     go_wp2
     go_roundw
     case rel => exact ⟨i + 1, by omega, by go_num, N3⟩
     case measure => simp [Go.RowKit.intOf]; omega
   ·have hul : u.length ≤ 1000 := by
     rw [← hu]
     simp only [List.length_cons, yhw, List.length_take]
     omega
    have OW : Hid (∀ o : Obj, ((wr.alloc o).drew).ownsRow w.heap.size 5 1 _ u.length (bvs u)) := fun o => hown.alloc o
    have HC0 : Hid (((wr.alloc (.cells #[.int .u8 (d1.toNat : Int), .int .u8 (d2.toNat : Int)] 5)).drew).cell? ⟨wr.heap.size, 0, none⟩ = some (.int .u8 (d1.toNat : Int))) := by
     show (wr.alloc (.cells #[.int .u8 (d1.toNat : Int), .int .u8 (d2.toNat : Int)] 5)).cell? _ = _
     simp only [World.cell?, heap_alloc_new]
     rfl
    have HC1 : Hid (((wr.alloc (.cells #[.int .u8 (d1.toNat : Int), .int .u8 (d2.toNat : Int)] 5)).drew).cell? ⟨wr.heap.size, 1, none⟩ = some (.int .u8 (d2.toNat : Int))) := by
     show (wr.alloc (.cells #[.int .u8 (d1.toNat : Int), .int .u8 (d2.toNat : Int)] 5)).cell? _ = _
     simp only [World.cell?, heap_alloc_new]
     rfl
    have HZ : Hid (∀ o : Obj, w.heap.size ≤ ((wr.alloc o).drew).heap.size) := fun o => by
     have := hH.out.bel.size
     show w.heap.size ≤ (wr.alloc o).heap.size
     simp
     omega
    have HB := yab (fun (o : Obj) (w3 : World) (hg : ((wr.alloc o).drew).grownBy w3 _) => ((hH.out.bel.alloc hH.out.bel.size o).drew).grown hg (HZ.out o) (fun k hk => (World.ownsRow.lt hown k hk).1))
    have NX : Hid (∀ (w3 : World) (v' : Value), w3.ownsRow w.heap.size 5 1 v' (u.length + 2) (bvs u ++ [.int .u8 (d1.toNat : Int), .int .u8 (d2.toNat : Int)]) → Below w.heap.size w w3 → HX w w3 v' (i + 1) (61 :: yir ((bs t).take (i + 1)))) := fun w3 v' ho hb => by
     have := hH.out.grown (o := .cells #[] 0) d1 d2 (v' := v') (w3 := w3) ho hb
     rw [TK.out] at this
     exact this
    clear hu hown
    go_wp2_with fail
    go_region_law (first
     |(refine yyq _ rfl (.tmp 12) (.tmp 23) rfl w.heap.size _ u.length (bvs u) (by rfl) (OW.out _) wr.heap.size (d1.toNat : Int) (d2.toNat : Int) (by rfl) HC0.out HC1.out (by omega) (HZ.out _) ?_; intro g3 c3 w3 ho3 hgr3 hat3 hl3; have N3 := yab (NX.out w3 _ ho3 (HB.out _ w3 hgr3)); clear ho3 hgr3 hat3 hl3; dsimp only))
    all_goals
     go_wp2
     go_roundw
     case rel => exact ⟨i + 1, by omega, by go_num, N3⟩
     case measure => simp [Go.RowKit.intOf]; omega
  ·have ei : i = t.size := by omega
   subst ei
   obtain ⟨g, c, rfl, _⟩ := hH.out.val
   have cv := hH.out.conv
   have e : 61 :: yir ((bs t).take t.size) = 61 :: yir (bs t) := by rw [← yax, List.take_length]
   have E := yab e
   generalize 61 :: yir ((bs t).take t.size) = u at *
   clear e
   go_wp2
   go_ret
   exact ⟨by rw [← E.out]; rfl, hH.out.bel⟩
end Go.Proofs.K

namespace Go.Proofs.K
open Go.RowKit Go.Lib
variable {V w : World} {t : ByteArray} {x y : Int} {c : Nat → Int}
structure FT (w V : World) (t : ByteArray) (x y : Int) (c : Nat → Int) : Prop where
 blk : V.heap[w.heap.size]? = some (.cells #[.string t, .int .i64 x, .int .i64 y, .int .i64 (c 0), .int .i64 (c 1), .int .i64 (c 2), .int .i64 (c 3), .int .i64 (c 4), .int .i64 (c 5)] 193 (0, 0))
 bel : Below w.heap.size w V
theorem FT.lt (h : FT w V t x y c) : w.heap.size < V.heap.size := (Array.getElem?_eq_some_iff.1 h.blk).1
theorem FT.more {V' : World} (h : FT w V t x y c) (hb : Below V.heap.size V V') : FT w V' t x y c :=
 ⟨by rw [hb.block _ h.lt]; exact h.blk, h.bel.trans (hb.mono h.bel.size)⟩
theorem FT.cells (h : FT w V t x y c) : V.cell? ⟨w.heap.size, 0, none⟩ = some (.string t) ∧ V.cell? ⟨w.heap.size, 1, none⟩ = some (.int .i64 x) ∧ V.cell? ⟨w.heap.size, 2, none⟩ = some (.int .i64 y) ∧ V.cell? ⟨w.heap.size, 3, none⟩ = some (.int .i64 (c 0)) ∧ V.cell? ⟨w.heap.size, 4, none⟩ = some (.int .i64 (c 1)) ∧ V.cell? ⟨w.heap.size, 5, none⟩ = some (.int .i64 (c 2)) ∧ V.cell? ⟨w.heap.size, 6, none⟩ = some (.int .i64 (c 3)) ∧ V.cell? ⟨w.heap.size, 7, none⟩ = some (.int .i64 (c 4)) ∧ V.cell? ⟨w.heap.size, 8, none⟩ = some (.int .i64 (c 5)) := by
 refine ⟨?_, ?_, ?_, ?_, ?_, ?_, ?_, ?_, ?_⟩ <;> (simp only [World.cell?, h.blk]; rfl)
def DS.fT (d : DS) : Bs := if d.there = true then decDigits d.by_ ++ 58 :: decDigits d.num ++ 32 :: (yba d.chg ++ 32 :: 61 :: yir d.text) else [45]
theorem ygg (l : List Nat) (hl : ∀ v ∈ l, v ≤ 1000000000) : (yba l).length ≤ 12 * l.length := by
 induction l with
 |nil => simp [yba, ybu]
 |cons a l ih =>
  have h1 := ih (fun v hv => hl v (List.mem_cons_of_mem _ hv))
  have h2 := yda 10 a (Nat.lt_of_le_of_lt (hl a (by simp)) (by decide))
  cases l with
  |nil => simp [yba, ybu]; omega
  |cons b l =>
   unfold yba at h1 ⊢
   rw [List.map_cons, List.map_cons, ydl]
   rw [List.map_cons] at h1
   simp at h1 ⊢
   omega
theorem ywq (d : DS) (n : Nat) (h1 : 1 ≤ n) (h6 : n ≤ 6) (hd : d.ok n) (hb : d.born) (w : World) (hg : yez w) :
  Calls Tryz.prog 123 #[.agg #[.string (yaf d.text), .int .i64 d.by_, .int .i64 d.num, .int .i64 (lfn d.chg 0), .int .i64 (lfn d.chg 1), .int .i64 (lfn d.chg 2), .int .i64 (lfn d.chg 3), .int .i64 (lfn d.chg 4), .int .i64 (lfn d.chg 5)], .int .i64 n] w fun e w' => e = .returned (.string (yaf d.fT)) ∧ Below w.heap.size w w' := by
 have F0 : Hid (FT w (w.alloc (.cells #[.string (yaf d.text), .int .i64 d.by_, .int .i64 d.num, .int .i64 (lfn d.chg 0), .int .i64 (lfn d.chg 1), .int .i64 (lfn d.chg 2), .int .i64 (lfn d.chg 3), .int .i64 (lfn d.chg 4), .int .i64 (lfn d.chg 5)] 193)) (yaf d.text) d.by_ d.num (lfn d.chg)) := ⟨heap_alloc_new _ _, (Below.refl _ _).alloc (Nat.le_refl _) _⟩
 have IS := yab (fun V => yaw (yaf d.text) d.by_ d.num (lfn d.chg 0) (lfn d.chg 1) (lfn d.chg 2) (lfn d.chg 3) (lfn d.chg 4) (lfn d.chg 5) V)
 cases ht : d.there with
 |false =>
  obtain ⟨e1, e2, e3, e4⟩ := hd.none ht
  have e : d.fT = [45] := by unfold DS.fT; rw [if_neg (by rw [ht]; simp)]
  rw [e]
  have hd0 : decide ((0 : Int) < (d.num : Int)) = false := by rw [e2]; rfl
  rw [hd0] at IS
  clear hg hd0 e1 e2 e3 e4
  generalize (d.num : Int) = num at *
  generalize (d.by_ : Int) = by_ at *
  generalize lfn d.chg = ch at *
  generalize yaf d.text = tx at *
  go_enter Tryz.func123, Tryz.ntmps123
  go_wp2_with (go_at_call 113; refine (IS.out _).mono ?_; rintro e w1 ⟨rfl, hb1⟩; have F1 := yab (F0.out.more hb1); clear hb1)
  go_ret
  exact ⟨rfl, F1.out.bel⟩
 |true =>
  obtain ⟨y1, y2, y3, y4, y5⟩ := hd.yes ht
  have hn1 := (hb ht).1
  have hd0 : decide ((0 : Int) < (d.num : Int)) = true := by simp; omega
  rw [hd0] at IS
  have ET : Hid (∀ V, FT w V (yaf d.text) d.by_ d.num (lfn d.chg) → Calls Tryz.prog 178 #[.agg #[.int .i64 d.by_, .int .i64 d.num]] V fun e w' => e = .returned (.string (yaf (decDigits d.by_ ++ 58 :: decDigits d.num))) ∧ FT w w' (yaf d.text) d.by_ d.num (lfn d.chg)) := fun V hV => (ytj d.by_ d.num (by omega) y2 V (hg.below hV.bel)).mono fun e w' h => ⟨h.1, hV.more h.2⟩
  have TT' : Hid (∀ V, FT w V (yaf d.text) d.by_ d.num (lfn d.chg) → Calls Tryz.prog 121 #[.agg #[.int .i64 (lfn d.chg 0), .int .i64 (lfn d.chg 1), .int .i64 (lfn d.chg 2), .int .i64 (lfn d.chg 3), .int .i64 (lfn d.chg 4), .int .i64 (lfn d.chg 5)], .int .i64 n] V fun e w' => e = .returned (.string (yaf (yba d.chg))) ∧ FT w w' (yaf d.text) d.by_ d.num (lfn d.chg)) := fun V hV => (yiw d.chg n y3 h1 h6 y4 V (hg.below hV.bel)).mono fun e w' h => ⟨h.1, hV.more h.2⟩
  have HT : Hid (∀ V, FT w V (yaf d.text) d.by_ d.num (lfn d.chg) → Calls Tryz.prog 179 #[.string (yaf d.text)] V fun e w' => e = .returned (.string (yaf (61 :: yir d.text))) ∧ FT w w' (yaf d.text) d.by_ d.num (lfn d.chg)) := fun V hV => by
   have := Hex_any (yaf d.text) (by rw [yal]; exact y5) V
   rw [yah] at this
   exact this.mono fun e w' h => ⟨h.1, hV.more h.2⟩
  have HL : Hid (yaf d.fT = yaf (decDigits d.by_ ++ 58 :: decDigits d.num) ++ (⟨#[32]⟩ : ByteArray) ++ yaf (yba d.chg) ++ (⟨#[32]⟩ : ByteArray) ++ yaf (61 :: yir d.text)) := by
   unfold Hid DS.fT
   rw [if_pos ht]
   apply ygw
   rw [yah, ybv, ybv, ybv, ybv, yah, yah, yah]
   simp [bs]
  rw [HL.out]
  have s1 : (yaf (decDigits d.by_ ++ 58 :: decDigits d.num)).size ≤ 1000 := by
   rw [yal]
   have := yda 10 d.by_ (Nat.lt_of_lt_of_le (by omega : d.by_ < 1000000000) (by decide))
   have := yda 10 d.num (Nat.lt_of_le_of_lt y2 (by decide))
   simp; omega
  have s2 : (yaf (yba d.chg)).size ≤ 1000 := by rw [yal]; have := ygg d.chg y4; omega
  have s3 : (yaf (61 :: yir d.text)).size ≤ 1000 := by rw [yal]; simp only [List.length_cons, yhw]; omega
  generalize yaf (decDigits d.by_ ++ 58 :: decDigits d.num) = da at *
  generalize yaf (yba d.chg) = db at *
  generalize yaf (61 :: yir d.text) = dc at *
  clear hg hd0 hn1 HL y1 y2
  generalize (d.num : Int) = num at *
  generalize (d.by_ : Int) = by_ at *
  generalize lfn d.chg = ch at *
  generalize yaf d.text = tx at *
  have n1 : ¬ 9223372036854775807 < da.size + 1 := by omega
  have n2 : ¬ 9223372036854775807 < da.size + 1 + db.size := by omega
  have n3 : ¬ 9223372036854775807 < da.size + 1 + db.size + 1 := by omega
  have n4 : ¬ 9223372036854775807 < da.size + 1 + db.size + 1 + dc.size := by omega
  go_enter Tryz.func123, Tryz.ntmps123
  go_wp2_with (go_at_call 113; refine (IS.out _).mono ?_; rintro e w1 ⟨rfl, hb1⟩; have F1 := yab (F0.out.more hb1); clear hb1)
  have FD : Hid (FT w w1.drew tx by_ num ch) := F1.out.more ⟨rfl, rfl, rfl, Nat.le_refl _, fun _ _ => rfl⟩
  obtain ⟨k0, k1, k2, k3, k4, k5, k6, k7, k8⟩ := F1.out.cells
  go_region_law (first
   |(go_simp; go_at_call 178; refine (ET.out _ (by first | exact E2.out | exact FD.out)).mono ?_; rintro e w2 ⟨rfl, hE⟩; have E2 := yab hE; clear hE; obtain ⟨q0, q1, q2, q3, q4, q5, q6, q7, q8⟩ := E2.out.cells; dsimp only)
   |(go_simp; go_at_call 121; refine (TT'.out _ (by first | exact E2.out | exact FD.out)).mono ?_; rintro e w2 ⟨rfl, hE⟩; have E2 := yab hE; clear hE; obtain ⟨q0, q1, q2, q3, q4, q5, q6, q7, q8⟩ := E2.out.cells; dsimp only)
   |(go_simp; go_at_call 179; refine (HT.out _ (by first | exact E2.out | exact FD.out)).mono ?_; rintro e w2 ⟨rfl, hE⟩; have E2 := yab hE; clear hE; obtain ⟨q0, q1, q2, q3, q4, q5, q6, q7, q8⟩ := E2.out.cells; dsimp only))
  all_goals
   go_wp2
   go_ret
   exact ⟨rfl, E2.out.bel⟩
end Go.Proofs.K

namespace Go.Proofs.K
open Go.RowKit Go.Lib Go.Maps Go.Sort
theorem yrd (ss : List (List UInt8)) (h : ss.Pairwise (fun a b => Op.bytesLess a b = true)) : Lib.compact ss = ss := by
 apply Lib.compact_all
 intro j hj
 by_cases h0 : j = 0
 ·subst h0; simp [Lib.keeps]
 ·apply Lib.keeps_pos
  have hj' : j < ss.toArray.size := by simpa using hj
  have hj1 : j - 1 < ss.toArray.size := by omega
  rw [getElem!_pos ss.toArray j hj', getElem!_pos ss.toArray (j - 1) hj1]
  simp only [List.getElem_toArray]
  have := List.pairwise_iff_getElem.1 h (j - 1) j (by omega) hj (by omega)
  intro e
  rw [e, yft] at this
  cases this
theorem perm_step {l B c c' : List ByteArray} {x : ByteArray} (h : l.Perm (B ++ c)) (hs : c'.Perm (x :: c)) : (l ++ [x]).Perm (B ++ c') :=
 ((List.perm_append_comm).trans (List.Perm.cons x h)).trans (((List.perm_middle (a := x) (l₁ := B) (l₂ := c)).symm).trans (List.Perm.append_left B hs.symm))
theorem yko (g : Nat) (e : TypeId) : ∀ (ys : List Value) (o : Nat) (w : World) (cur : Array Value), w.heap[g]? = some (.cells cur e (0, 0)) → o + ys.length ≤ cur.size →
  ∃ cur', (w.setCells g o ys).heap[g]? = some (.cells cur' e (0, 0)) ∧ cur'.size = cur.size ∧ ∀ i, i < o + ys.length → cur'[i]? = if i < o then cur[i]? else ys[i - o]?
 |[], o, w, cur, h, _ => ⟨cur, h, rfl, fun i hi => by simp at hi; rw [if_pos hi]⟩
 |y :: ys, o, w, cur, h, hl => by
  have h1 := heap_setCell_same w g o _ _ y h
  obtain ⟨cur', e1, e2, e3⟩ := yko g e ys (o + 1) (w.setCell ⟨g, o, none⟩ y) _ h1 (by simp at hl ⊢; omega)
  refine ⟨cur', e1, e2.trans (by simp), fun i hi => ?_⟩
  rw [e3 i (by simp at hi ⊢; omega)]
  by_cases h2 : i < o
  ·rw [if_pos (by omega), if_pos h2, Array.getElem?_setIfInBounds_ne (by omega)]
  ·rw [if_neg h2]
   by_cases h3 : i = o
   ·subst h3
    rw [if_pos (by omega), Array.getElem?_setIfInBounds_self_of_lt (by simp at hl; omega)]
    simp
   ·rw [if_neg (by omega), show i - o = (i - (o + 1)) + 1 by omega, List.getElem?_cons_succ]
theorem ownsRow_set {w : World} {base g n cap : Nat} {e : TypeId} {xs : List Value} (h : w.ownsRow base e 1 (.slice (some ⟨g, 0, none⟩) n cap) n xs) (ys : List Value) (hy : ys.length = n) (m : Nat) (hm : m ≤ n) :
  (w.setCells g 0 ys).ownsRow base e 1 (.slice (some ⟨g, 0, none⟩) m cap) m (ys.take m) := by
 rcases h.2 with ⟨q, _⟩ | ⟨g', cap', cur, q, hb, hg, h1, h2, h3, h4⟩
 ·cases q
 ·cases q
  obtain ⟨cur', e1, e2, e3⟩ := yko g e ys 0 w cur hg (by rw [h3]; omega)
  refine ⟨by simp [hy]; omega, .inr ⟨g, cap, cur', rfl, hb, e1, by omega, h2, e2.trans h3, ?_⟩⟩
  apply List.ext_getElem?
  intro i
  rw [List.getElem?_take, List.getElem?_take, Nat.mul_one]
  by_cases hi : i < m
  ·rw [if_pos hi, if_pos hi, Array.getElem?_toList, e3 i (by omega), if_neg (by omega)]
   rfl
  ·rw [if_neg hi, if_neg hi]
def cat (Es : Nat → yau) : Nat → List ByteArray
 |0 => []
 |i + 1 => cat Es i ++ (Es i).map (·.1)
theorem yxn (n : Nat) (rs ms : Nat → Nat) (Es : Nat → yau) (g : Nat) (w : World) (U : List ByteArray) (hR : ∀ i, i < n → w.cell? ⟨g, i, none⟩ = some (.pointer (some ⟨rs i, 0, none⟩)) ∧ ∃ s cm, Rp w (rs i) s cm (ms i) (Es i)) (hgl : g < w.heap.size) (h6 : n ≤ 6) (hl : ∀ i, i ≤ n → (cat Es i).length ≤ 1000000000) (hU : ∀ l : List ByteArray, l.Perm (cat Es n) → Lib.compact ((l.map lst).mergeSort fun x y => decide (x ≤ y)) = U.map lst) :
  Calls Tryz.prog 122 #[.slice (some ⟨g, 0, none⟩) n n] w fun e w' => ∃ v, e = .returned v ∧ w'.ownsRow w.heap.size 9 1 v U.length (svs U) ∧ Below w.heap.size w w' := by
 go_enter Tryz.func122, Tryz.ntmps122
 go_wp2
 go_loopw [3, 9] (fun pv iv wr => ∃ i : Nat, i ≤ n ∧ iv = .int .i64 i ∧ (∃ l : List ByteArray, wr.ownsRow w.heap.size 9 1 pv l.length (svs l) ∧ l.Perm (cat Es i)) ∧ Hid (Below w.heap.size w wr)) (fun _ iv _ => n - (Go.RowKit.intOf iv).toNat)
 case atStart => exact ⟨0, by omega, rfl, ⟨[], World.ownsRow_nil _ _ _ _, List.Perm.refl _⟩, Below.refl _ _⟩
 case round =>
  obtain ⟨i, hi, rfl, ⟨l0, hrow0, hperm0⟩, hb0⟩ := hrel
  by_cases hin : i < n
  ·obtain ⟨hg0', s, cm, h⟩ := hR i hin
   have hli := hl (i + 1) hin
   have eE : cat Es (i + 1) = cat Es i ++ (Es i).map (·.1) := rfl
   rw [eE, List.length_append, List.length_map] at hli
   clear hR hl hU
   generalize rs i = rb at *
   generalize ms i = mb at *
   generalize Es i = E at *
   have HR := yab h
   have hE := h.ris
   clear h
   have g0 : wr.cell? ⟨g, i, none⟩ = some (.pointer (some ⟨rb, 0, none⟩)) := (hb0.out.cell (p := ⟨g, i, none⟩) hgl).trans hg0'
   have RW := HR.out.below hb0.out
   have c7 := RW.rep.c7
   have hown := RW.own
   have hml : mb < w.heap.size := HR.out.own.lt
   clear RW
   go_wp2_with (first
    |(at_range; refine wpList_range_own _ rfl _ 184 rfl 9 197 lawS Tryz.underlying184 _ mb E.length _ rfl hown ?_; intro w0 hrg0 hg0 hs0)
    |go_in)
   go_frame
   have hb1 : Hid (Below w.heap.size w w0) := hb0.out.grown hg0 hb0.out.size (fun j hj => by cases hj)
   have hrow1 := yab (hrow0.kept hg0 (by cases hq : (Value.ownBlock _ : Option Nat) with | none => exact .inl rfl | some k => exact .inr (by simp)))
   have hwz := hb0.out.size
   clear hrow0 hb0 hown
   generalize hzz : wr.heap.size = z at *
   go_loopw [3] (fun v wr2 => ∃ (left : Lit → Bool) (cnt : Nat), wr2.ranges Tryz.prog 9 yar mb z E.length (ycb E) left cnt ∧ (∃ l : List ByteArray, wr2.ownsRow w.heap.size 9 1 v l.length (svs l) ∧ l.Perm (cat Es i ++ come left E)) ∧ Hid (Below w.heap.size w wr2)) (fun _ wr2 => wr2.rangeLeft mb z)
   case atStart => exact ⟨_, _, hrg0, ⟨l0, hrow1.out, by rw [come_start, List.append_nil]; exact hperm0⟩, hb1⟩
   case round =>
    obtain ⟨left, cnt, hrg, ⟨l, hrow, hperm⟩, hbw⟩ := hrel
    clear hrg0 hrow1 hb1
    go_wp2_with (first
     |(at_next; refine wpList_next_ranges _ rfl _ rfl 9 lawS yar Value.string yad (fun key kl h => Maps.keyOf_string_inv Tryz.underlying9 h) recInv mb z E.length (ycb E) left cnt rfl hrg ?_ ?_)
     |go_in)
    ·intro hc0 hl0
     rw [come_end hl0] at hperm
     go_wp2
     go_roundw
     case rel => exact ⟨i + 1, by omega, by go_num, ⟨l, hrow, by rw [← eE] at hperm; exact hperm⟩, hbw⟩
     case measure => simp [Go.RowKit.intOf]; omega
    ·intro x R kl yd yp w1 cnt1 hkey hlk hv hat hrg1 hltm hg1 hs1 hen
     obtain ⟨rfl, _⟩ := key_of hkey
     obtain ⟨R', hm, hd⟩ := rec_at hat
     have LS := yab (come_step hE hm hlk)
     have hll : l.length ≤ 1000000000 := by rw [hperm.length_eq, List.length_append]; have := come_le left E; omega
     have HB1 : Hid (Below w.heap.size w w1) := hbw.out.grown hg1 hbw.out.size (fun j hj => by cases hj; exact hwz)
     have NI := yab (row_ne_iter hrow hrg)
     have hrow1 := yab (yas (w' := w1) hrow (fun k e => by have := World.ownsRow.lt hrow k e; exact hg1.block k this.2 (fun e' => NI.out (by rw [e, ← e']))))
     have RG := yab hrg
     have RG1 := yab hrg1
     have HP := yab hperm
     clear hkey hat hv hd hm hg1 hrg hrg1 hrow hperm hs1
     simp only [yad] at hen ⊢
     go_wp2_with (at_builtin; refine app_str _ rfl (.tmp 22) (.tmp 24) rfl w.heap.size _ _ _ rfl (hrow1.out.alloc _) w1.heap.size x rfl (by simp) (by omega) (by have := HB1.out.size; simp; omega) ?_; intro g2 c2 w3 ho3 hgr3 hat3 hl3)
     have NI2 := yab (row_ne_iter hrow1.out RG1.out)
     have HB3 := yab (yfx (HB1.out.alloc HB1.out.size _) hgr3 (fun q hq => (World.ownsRow.lt hrow1.out q hq).1))
     have RG3 := yab ((RG1.out.alloc _).kept hgr3 (fun e => by have := (World.ownsRow.lt hrow1.out mb e.symm).1; omega) NI2.out)
     have HRW := yab ho3
     clear hgr3 ho3 hat3
     go_roundw
     case rel => exact ⟨_, cnt1, RG3.out, ⟨l ++ [x], by rw [yke, List.length_append]; exact HRW.out, perm_step HP.out LS.out⟩, HB3⟩
     case measure => rw [RG3.out.left_eq, RG.out.left_eq]; exact hltm
  ·have hiN : (i : Int) = n := by omega
   have hl0 : l0.length ≤ 1000000000 := by rw [hperm0.length_eq]; exact hl i hi
   have CU := yab (hU l0 (by rw [← show i = n by omega]; exact hperm0))
   have UL := yab (Lib.compact_length_le ((l0.map lst).mergeSort fun x y => decide (x ≤ y)))
   rw [CU.out, List.length_map, List.length_mergeSort, List.length_map] at UL
   rcases hrow0.2 with ⟨rfl, h0⟩ | ⟨g1, cap, cur, rfl, hbase, hb, h1, h2, h3, h4⟩
   ·have eU : U = [] := List.length_eq_zero_iff.1 (by have := UL.out; omega)
    subst eU
    go_wp2_with (first
     |(go_at_call 176; refine (Tryz.slices_Sort_string_none none 0 wr).mono ?_; rintro e w5 ⟨rfl, rfl⟩)
     |(go_at_call 177; refine (Tryz.slices_Compact_string_empty none 0 _).mono ?_; rintro e w6 ⟨rfl, rfl⟩))
    go_ret
    exact ⟨_, rfl, World.ownsRow_nil _ _ _ _, hb0.out⟩
   ·have hss : (l0.map lst).length = l0.length := by simp
    have hH : Holds encStr wr g1 0 (l0.map lst).toArray := holds_of_block hb (by rw [hss, ← svs_lst]; simpa using h4)
    have SC := yab (Tryz.slices_Sort_string g1 0 cap (l0.map lst) wr hH (Array.getElem?_eq_some_iff.1 hb).1 (by rw [hss]; omega))
    rw [hss] at SC
    generalize hT : ((l0.map lst).mergeSort fun x y => decide (x ≤ y)) = TT at *
    have hTl : TT.length = l0.length := by rw [← hT, List.length_mergeSort, hss]
    have SD : Hid (∀ (w5 : World), (∃ nn os, w5 = grow (putRow encStr (Sort.ahead wr nn) g1 0 TT.toArray) os) → w5.ownsRow w.heap.size 9 1 (.slice (some ⟨g1, 0, none⟩) l0.length cap) l0.length (TT.map encStr) ∧ Below w.heap.size w w5) := fun w5 hw5 => by
     obtain ⟨nn, os, rfl⟩ := hw5
     refine ⟨?_, hb0.out.grown (grownBy_sorted _) hb0.out.size (fun j hj => by cases hj; exact hbase)⟩
     have := ownsRow_sorted (n := nn) (os := os) (ss := l0.map lst) (ts := TT) (by rw [hss, hTl]) hbase hb (by rw [hss]; exact h1) h2 h3
     rw [hss] at this
     exact this
    have CC : Hid (∀ (w5 : World), w5.ownsRow w.heap.size 9 1 (.slice (some ⟨g1, 0, none⟩) l0.length cap) l0.length (TT.map encStr) → Calls Tryz.prog 177 #[.slice (some ⟨g1, 0, none⟩) l0.length cap] w5 fun e w' => e = .returned (.slice (some ⟨g1, 0, none⟩) U.length cap) ∧ w'.ownsRow w.heap.size 9 1 (.slice (some ⟨g1, 0, none⟩) U.length cap) U.length (svs U) ∧ Below w.heap.size w5 w') := fun w5 h5 => by
     have sx : Lib.strsOf (fun i => ByteArray.mk (TT.getD i []).toArray) l0.length = TT := by
      unfold Lib.strsOf
      apply List.ext_getElem
      ·simp [hTl]
      ·intro i q1 q2
       simp [ByteArray.toList_eq, List.getD_eq_getElem?_getD, List.getElem?_eq_getElem q2]
     refine (Tryz.slices_Compact_string_cells g1 0 l0.length cap (fun i => ByteArray.mk (TT.getD i []).toArray) w5 (by omega) h1 (fun i hi => ?_) (fun j hj => ?_)).mono ?_
     ·rw [Nat.zero_add, World.ownsRow.cellAt h5 i (by omega), List.getElem?_map, List.getElem?_eq_getElem (by omega)]
      simp [List.getD_eq_getElem?_getD, List.getElem?_eq_getElem (show i < TT.length by omega), encStr]
     ·rw [Nat.zero_add]
      exact h5.frozenAt j
     ·rintro e w' ⟨rfl, q, rfl⟩
      rw [sx, CU.out, List.length_map]
      refine ⟨rfl, ?_, Below.setCells (ycw (Below.refl _ _) q) hbase _ _⟩
      have := ownsRow_set (w := w5.drewN q) (h5 : (w5.drewN q).ownsRow _ _ _ _ _ _) ((U.map lst ++ List.replicate (l0.length - U.length) []).map encStr) (by have := UL.out; simp; omega) U.length UL.out
      rw [List.map_append, List.take_left' (by simp)] at this
      rw [List.map_append, svs_lst]
      exact this
    clear hH hb h4 hrow0 hperm0 hss hTl hT CU UL hU
    generalize l0.length = n0 at *
    go_wp2_with (first
     |(go_at_call 176; refine SC.out.mono ?_; rintro e w5 ⟨rfl, hw5⟩; have S5 := yab (SD.out w5 hw5); clear hw5)
     |(go_at_call 177; refine (CC.out _ S5.out.1).mono ?_; rintro e w6 ⟨rfl, ho6, hb6⟩; have O6 := yab ho6; have B6 := yab hb6; clear ho6 hb6))
    go_ret
    exact ⟨_, rfl, O6.out, S5.out.2.trans B6.out⟩
theorem pathsOf_one (rb s : Nat) (cm : Nat → Int) (mb : Nat) (E : yau) (g : Nat) (w : World) (h : Rp w rb s cm mb E) (hl : E.length < 100000000) (hg : w.cell? ⟨g, 0, none⟩ = some (.pointer (some ⟨rb, 0, none⟩))) (hgl : g < w.heap.size) :
  Calls Tryz.prog 122 #[.slice (some ⟨g, 0, none⟩) 1 1] w fun e w' => ∃ v, e = .returned v ∧ w'.ownsRow w.heap.size 9 1 v E.length (svs (E.map (·.1))) ∧ Below w.heap.size w w' := by
 have := yxn 1 (fun _ => rb) (fun _ => mb) (fun _ => E) g w (E.map (·.1)) (fun i hi => by rw [show i = 0 by omega]; exact ⟨hg, s, cm, h⟩) hgl (by omega) (fun i hi => by match i, hi with | 0, _ => simp [cat] | 1, _ => simp [cat]; omega) (fun l hp => by rw [sorted_eq (l.map lst) _ (ysu h.ris) (hp.map lst)]; exact yrd _ (ysu h.ris))
 rw [List.length_map] at this
 exact this
open Go.RowKit Go.Lib Go.Maps
theorem yyp {ops : Array Oper} {o : Oper} {a : Act} {K : Act → World → Prop} {Q : Exit → Act → World → Prop} {E : Prop} (w : World) (hgd : o.guard = none) (s x : Operand) (ho : o.op = .call { callee := .builtin .append, args := #[s, x], argTypes := #[25, 25] }) (base : Nat) (v : Value) (n : Nat) (xs : List Value) (hs : a.eval s = v) (hown : w.ownsRow base 9 1 v n xs)
  (k : Nat) (y : ByteArray) (hx : a.eval x = .slice (some ⟨k, 0, none⟩) 1 1) (hc : w.cell? ⟨k, 0, none⟩ = some (.string y)) (hn : n ≤ 1000000000000) (hb : base ≤ w.heap.size)
  (h : ∀ g cap w1, w1.ownsRow base 9 1 (.slice (some ⟨g, 0, none⟩) (n + 1) cap) (n + 1) (xs ++ [.string y]) → w.grownBy w1 v.ownBlock → (v.ownBlock = some g ∨ g = w.heap.size) → g < w1.heap.size → K (a.put o.dst (.slice (some ⟨g, 0, none⟩) (n + 1) cap)) w1) :
  if Region.wanted o (yielded ops a.tmps) = true then Oper.wp Tryz.prog o a w K Q else E := by
 obtain ⟨i0, hi, hz0, hz1, hz2⟩ := info_parts yku
 refine step_append_lies w hgd s x 25 ho base 9 i0 _ 1 16 Tryz.underlying25 hi hz0 hz1 hz2 rfl (by decide) v n xs hs hown ⟨k, 0, none⟩ 1 1 [.string y] hx rfl ?_ ?_ (by omega) (by unfold maxLen; omega) (by omega) hb _ rfl h
 ·intro j u hj
  match j, hj with
  |0, hj => simp at hj; subst hj; simpa [Addr.add] using hc
 ·intro u hu; simp at hu; subst hu; rfl
theorem yxm (rb s : Nat) (cm : Nat → Int) (mb : Nat) (E : yau) (g : Nat) (w : World) (h : Rp w rb s cm mb E) (hl : E.length < 100000000) (hg : w.cell? ⟨g, 0, none⟩ = some (.pointer (some ⟨rb, 0, none⟩))) (hgl : g < w.heap.size) :
  Calls Tryz.prog 122 #[.slice (some ⟨g, 0, none⟩) 1 1] w fun e w' => ∃ a cap, e = .returned (.slice a E.length cap) ∧ w'.ownsRow w.heap.size 9 1 (.slice a E.length cap) E.length (svs (E.map (·.1))) ∧ Below w.heap.size w w' := by
 refine (pathsOf_one rb s cm mb E g w h hl hg hgl).mono ?_
 rintro e w' ⟨v, rfl, ho, hb⟩
 rcases ho.2 with ⟨rfl, h0⟩ | ⟨g', cap, cur, rfl, _⟩
 ·refine ⟨none, 0, by rw [h0], ?_, hb⟩
  have := ho
  rw [h0] at this ⊢
  exact this
 ·exact ⟨_, cap, rfl, ho, hb⟩
theorem recL_fT (y : ByteArray × DS) : recL y = bs y.1 ++ 32 :: (yba y.2.known ++ 32 :: y.2.fT) := rfl
structure LI (w wr : World) (pv lv : Value) (d : DR) (i : Nat) : Prop where
 bel : Below w.heap.size w wr
 lines : wr.ownsRow w.heap.size 9 1 lv (i + 1) (svs (((ybz d).take (i + 1)).map yaf))
 paths : wr.ownsRow w.heap.size 9 1 pv d.recs.length (svs (d.recs.map (·.1)))
 ne : pv.ownBlock = none ∨ pv.ownBlock ≠ lv.ownBlock
theorem LI.more {w wr w2 : World} {pv lv : Value} {d : DR} {i : Nat} (h : LI w wr pv lv d i) (hb : Below wr.heap.size wr w2) : LI w w2 pv lv d i :=
 ⟨h.bel.trans (hb.mono h.bel.size), yas h.lines (fun k e => hb.block k (World.ownsRow.lt h.lines k e).2), yas h.paths (fun k e => hb.block k (World.ownsRow.lt h.paths k e).2), h.ne⟩
theorem lines_take (d : DR) (i : Nat) (y : ByteArray × DS) (hy : d.recs[i]? = some y) : ((ybz d).take (i + 1)).map yaf ++ [yaf (recL y)] = ((ybz d).take (i + 1 + 1)).map yaf := by
 have : (ybz d)[i + 1]? = some (recL y) := by
  unfold ybz
  rw [List.getElem?_cons_succ, List.getElem?_map, hy]
  rfl
 rw [List.take_add_one (i := i + 1), this]
 simp
theorem LI.step {w w2 w3 : World} {pv lv : Value} {d : DR} {i g cap : Nat} (h : LI w w2 pv lv d i) {y : ByteArray × DS} (hy : d.recs[i]? = some y) (o : Obj)
  (ho : w3.ownsRow w.heap.size 9 1 (.slice (some ⟨g, 0, none⟩) (i + 1 + 1) cap) (i + 1 + 1) (svs (((ybz d).take (i + 1)).map yaf) ++ [.string (yaf (recL y))])) (hg : (w2.alloc o).grownBy w3 lv.ownBlock) (hat : lv.ownBlock = some g ∨ g = (w2.alloc o).heap.size) :
  LI w w3 pv (.slice (some ⟨g, 0, none⟩) (i + 1 + 1) cap) d (i + 1) := by
 have e : svs (((ybz d).take (i + 1)).map yaf) ++ [.string (yaf (recL y))] = svs (((ybz d).take (i + 1 + 1)).map yaf) := by
  rw [← lines_take d i y hy, yke]
  rfl
 rw [e] at ho
 refine ⟨yfx (h.bel.alloc h.bel.size _) hg (fun k hk => (World.ownsRow.lt h.lines k hk).1), ho, (h.paths.alloc o).kept hg h.ne, ?_⟩
 rcases h.ne with hn | hn
 ·exact .inl hn
 ·right
  intro q
  rcases hat with hq | hq
  ·exact hn (by rw [hq, q]; rfl)
  ·have := (World.ownsRow.lt h.paths g (by rw [q]; rfl)).2
   rw [hq] at this
   simp at this
   omega
variable {R : Rec} {w : World} {d : DR}
theorem ydj {E : yau} (hE : yav E) {p : ByteArray} (h : (p, R) ∈ E) : ybh p E = some R := by
 obtain ⟨R', hR⟩ := Option.isSome_iff_exists.1 (yln h)
 simp only at hR
 rw [hR, ysv hE (ylq hR) h]
theorem LI.start {w1 w2 : World} {a : Option Addr} {cap n : Nat} (hb1 : Below w.heap.size w w1) (s0 : ByteArray) (hs : s0 = yaf (bs ydh ++ yba d.com)) (o : Obj) (hn : n = d.recs.length)
  (ho : w2.ownsRow ((w1.alloc (.cells #[.string s0] 9)).alloc o).heap.size 9 1 (.slice a n cap) n (svs (d.recs.map (·.1))))
  (hb2 : Below ((w1.alloc (.cells #[.string s0] 9)).alloc o).heap.size ((w1.alloc (.cells #[.string s0] 9)).alloc o) w2) : LI w w2 (.slice a n cap) (.slice (some ⟨w1.heap.size, 0, none⟩) 1 1) d 0 := by
 subst hn
 have hz := hb1.size
 have hb3 : Below w.heap.size w ((w1.alloc (.cells #[.string s0] 9)).alloc o) := (hb1.alloc hz _).alloc (by simp; omega) _
 have hr : w2.ownsRow w.heap.size 9 1 (.slice (some ⟨w1.heap.size, 0, none⟩) 1 1) 1 (svs [s0]) := by
  have h0 : ((w1.alloc (.cells #[.string s0] 9)).alloc o).ownsRow w.heap.size 9 1 (.slice (some ⟨w1.heap.size, 0, none⟩) 1 1) 1 (svs [s0]) := (World.ownsRow_lit w1 #[.string s0] 1 hz (by unfold maxLen; omega) rfl).alloc o
  exact yas h0 (fun k e => hb2.block k (World.ownsRow.lt h0 k e).2)
 refine ⟨hb3.trans (hb2.mono hb3.size), ?_, ydp ho (fun k hk => Nat.le_trans hb3.size (World.ownsRow.lt ho k hk).1), ?_⟩
 ·have : ((ybz d).take (0 + 1)).map yaf = [s0] := by rw [hs]; rfl
  rw [this]
  exact hr
 ·cases a with
  |none => exact .inl rfl
  |some ad =>
   right
   intro e
   have h1 := (World.ownsRow.lt ho ad.block rfl).1
   have h2 : some ad.block = some w1.heap.size := e
   simp at h1 h2
   omega
structure LJ (w V : World) (pv lv : Value) (d : DR) (i b : Nat) (R : Rec) : Prop where
 li : LI w V pv lv d i
 rc : yap V b R
theorem LJ.more {V V' : World} {pv lv : Value} {i b : Nat} (h : LJ w V pv lv d i b R) (hb : Below V.heap.size V V') : LJ w V' pv lv d i b R :=
 ⟨h.li.more hb, ⟨by rw [hb.block b (Array.getElem?_eq_some_iff.1 h.rc.blk).1]; exact h.rc.blk⟩⟩
end Go.Proofs.K

namespace Go.Proofs.K
open Go.RowKit Go.Lib Go.Maps
theorem LinesG_any (rb s mb : Nat) (E : yau) (d : DR) (n : Nat) (h1 : 1 ≤ n) (h6 : n ≤ 6) (hd : d.ok n) (hE : E.map (·.1) = d.recs.map (·.1)) (hRR : ∀ y ∈ d.recs, ybk s (lfn d.com) (ybh y.1 E) = ybl y.2) (hgd : ∀ y ∈ d.recs, y.2.born) (hlen : d.recs.length < 100000000) (w : World) (h : Rp w rb s (lfn d.com) mb E) (hg : yez w) :
  Calls Tryz.prog 73 #[.pointer (some ⟨rb, 0, none⟩), .int .i64 n] w fun e w' => ∃ v, e = .returned v ∧ w'.ownsRow w.heap.size 9 1 v (d.recs.length + 1) (svs ((ybz d).map yaf)) ∧ Below w.heap.size w w' := by
 have TC : Hid (∀ W, Below w.heap.size w W → Calls Tryz.prog 121 #[.agg #[.int .i64 (lfn d.com 0), .int .i64 (lfn d.com 1), .int .i64 (lfn d.com 2), .int .i64 (lfn d.com 3), .int .i64 (lfn d.com 4), .int .i64 (lfn d.com 5)], .int .i64 n] W fun e w' => e = .returned (.string (yaf (yba d.com))) ∧ Below w.heap.size w w') := fun W hW => (yiw d.com n hd.cl h1 h6 hd.cb W (hg.below hW)).mono fun e w' q => ⟨q.1, hW.trans (q.2.mono hW.size)⟩
 have s0 : (yaf (yba d.com)).size ≤ 1000 := by rw [yal]; have := ygg d.com hd.cb; have := hd.cl; omega
 have E0 : Hid ((⟨#[114, 101, 112, 108, 105, 99, 97, 32]⟩ : ByteArray) ++ yaf (yba d.com) = yaf (bs ydh ++ yba d.com)) := by
  unfold Hid
  apply ygw
  rw [ybv, yah, yah]
  rfl
 have PO : Hid (∀ (W : World) (o : Obj) (k : Nat), k = W.heap.size → Below w.heap.size w W → (W.alloc o).cell? ⟨k, 0, none⟩ = some (.pointer (some ⟨rb, 0, none⟩)) → Calls Tryz.prog 122 #[.slice (some ⟨k, 0, none⟩) 1 1] (W.alloc o) fun e w' => ∃ a cap, e = .returned (.slice a d.recs.length cap) ∧ w'.ownsRow (W.alloc o).heap.size 9 1 (.slice a d.recs.length cap) d.recs.length (svs (d.recs.map (·.1))) ∧ Below (W.alloc o).heap.size (W.alloc o) w') := fun W o k hkk hW hc => by
  subst hkk
  have hb : Below w.heap.size w (W.alloc o) := hW.alloc hW.size _
  have hEl : E.length = d.recs.length := by have := congrArg List.length hE; simpa using this
  have := yxm rb s (lfn d.com) mb E W.heap.size (W.alloc o) (h.below hb) (by rw [hEl]; exact hlen) hc (by simp)
  rw [hEl, hE] at this
  exact this
 have RO : Hid (∀ (W : World) (y : ByteArray × DS), y ∈ d.recs → Below w.heap.size w W → Calls Tryz.prog 104 #[.pointer (some ⟨rb, 0, none⟩), .string y.1] W fun e w' => e = .returned (yad (ybl y.2)) ∧ Below W.heap.size W w') := fun W y hy hW => by
  have hR := h.below hW
  have hp := hd.recs.paths y hy
  have hps : y.1.size ≤ 12 := by unfold ybm at hp; simp only [Bool.and_eq_true, decide_eq_true_eq] at hp; omega
  have := yaz rb s (lfn d.com) mb E W hR.rep hR.own y.1 (by unfold maxLen; omega)
  rw [hRR y hy] at this
  exact this
 have c1 := h.rep.ct 0 (by omega)
 have c2 := h.rep.ct 1 (by omega)
 have c3 := h.rep.ct 2 (by omega)
 have c4 := h.rep.ct 3 (by omega)
 have c5 := h.rep.ct 4 (by omega)
 have c6 := h.rep.ct 5 (by omega)
 simp only [Nat.reduceAdd] at c1 c2 c3 c4 c5 c6
 have GL : Hid (∀ W, Below w.heap.size w W → yez W) := fun W hW => hg.below hW
 generalize ht0 : yaf (yba d.com) = tt at *
 generalize hrl : d.recs.length = rl at *
 have n1 : ¬ 9223372036854775807 < 8 + tt.size := by omega
 clear h hg ht0 hE hRR
 go_enter Tryz.func73, Tryz.ntmps73
 go_wp2_with (first
  |(go_at_call 121; refine (TC.out _ (Below.refl _ _)).mono ?_; rintro e w1 ⟨rfl, hb1⟩; have H1 := yab hb1; clear hb1)
  |(go_at_call 122; refine (PO.out _ _ (w1.heap.size + 1) (by simp) (H1.out.alloc H1.out.size _) (by simp)).mono ?_; rintro e w2 ⟨a, cap, rfl, ho2, hb2⟩; have L2 := yab (LI.start H1.out _ E0.out _ hrl.symm ho2 hb2); clear ho2 hb2))
 clear c1 c2 c3 c4 c5 c6 TC PO n1 s0 E0 H1
 go_loopw [5, 21] (fun lv iv wr => ∃ i : Nat, i ≤ rl ∧ iv = .int .i64 i ∧ Hid (LI w wr (.slice a rl cap) lv d i)) (fun _ iv _ => rl - (Go.RowKit.intOf iv).toNat)
 case atStart => exact ⟨0, Nat.zero_le _, rfl, L2⟩
 case round =>
  clear L2
  obtain ⟨i, hi, rfl, hL⟩ := hrel
  by_cases hlt : i < rl
  ·obtain ⟨y, hy⟩ : ∃ y, d.recs[i]? = some y := ⟨_, List.getElem?_eq_getElem (by omega)⟩
   have hmem := List.mem_of_getElem? hy
   obtain ⟨pg, pcap, ea, _, _⟩ := World.ownsRow.form hL.out.paths (by omega)
   simp only [Value.slice.injEq] at ea
   obtain ⟨rfl, erl, rfl⟩ := ea
   clear erl
   have cp : wr.cell? ⟨pg, i, none⟩ = some (.string y.1) := by
    have hp := hL.out.paths
    rw [hrl] at hp
    rw [World.ownsRow.cellAt hp i (by omega)]
    unfold svs
    rw [List.getElem?_map, List.getElem?_map, hy]
    rfl
   have hdy := hd.recs.oks y hmem
   have hby := hgd y hmem
   have hpy := hd.recs.paths y hmem
   have hps : y.1.size ≤ 12 := by unfold ybm at hpy; simp only [Bool.and_eq_true, decide_eq_true_eq] at hpy; omega
   have RC := yab (RO.out wr y hmem hL.out.bel)
   have KT : Hid (∀ V lv, LJ w V (.slice (some ⟨pg, 0, none⟩) rl cap) lv d i lv.ownBlock.isSome.toNat (ybl y.2) → True) := fun _ _ _ => trivial
   have TK : Hid (∀ V, Below w.heap.size w V → Calls Tryz.prog 121 #[.agg #[.int .i64 ((ybl y.2).kn 0), .int .i64 ((ybl y.2).kn 1), .int .i64 ((ybl y.2).kn 2), .int .i64 ((ybl y.2).kn 3), .int .i64 ((ybl y.2).kn 4), .int .i64 ((ybl y.2).kn 5)], .int .i64 n] V fun e w' => e = .returned (.string (yaf (yba y.2.known))) ∧ Below V.heap.size V w') := fun V hV => yiw y.2.known n hdy.kl h1 h6 hdy.kb V (GL.out V hV)
   have FK : Hid (∀ V, Below w.heap.size w V → Calls Tryz.prog 123 #[.agg #[.string (ybl y.2).text, .int .i64 (ybl y.2).br, .int .i64 (ybl y.2).bn, .int .i64 ((ybl y.2).ch 0), .int .i64 ((ybl y.2).ch 1), .int .i64 ((ybl y.2).ch 2), .int .i64 ((ybl y.2).ch 3), .int .i64 ((ybl y.2).ch 4), .int .i64 ((ybl y.2).ch 5)], .int .i64 n] V fun e w' => e = .returned (.string (yaf y.2.fT)) ∧ Below V.heap.size V w') := fun V hV => ywq y.2 n h1 h6 hdy hby V (GL.out V hV)
   have HL : Hid (y.1 ++ (⟨#[32]⟩ : ByteArray) ++ yaf (yba y.2.known) ++ (⟨#[32]⟩ : ByteArray) ++ yaf y.2.fT = yaf (recL y)) := by
    unfold Hid
    apply ygw
    rw [ybv, ybv, ybv, ybv, yah, yah, yah, recL_fT]
    simp [bs]
   have s1 : (yaf (yba y.2.known)).size ≤ 1000 := by rw [yal]; have := ygg y.2.known hdy.kb; have := hdy.kl; omega
   have s2 : (yaf y.2.fT).size ≤ 10000 := by
    rw [yal]
    unfold DS.fT
    split
    ·rename_i ht
     obtain ⟨y1, y2, y3, y4, y5⟩ := hdy.yes ht
     have t1 := yda 10 y.2.by_ (Nat.lt_of_lt_of_le (by omega : y.2.by_ < 1000000000) (by decide))
     have t2 := yda 10 y.2.num (Nat.lt_of_le_of_lt y2 (by decide))
     have t3 := ygg y.2.chg y4
     have t4 := yhw y.2.text
     simp
     omega
    ·simp
   have ST := yab (fun (V w3 : World) (lv : Value) (g' cap' : Nat) (o : Obj) (hV : LI w V (.slice (some ⟨pg, 0, none⟩) rl cap) lv d i) ho hg' hat' => hV.step hy o (w3 := w3) (g := g') (cap := cap') ho hg' hat')
   clear KT
   generalize hkt : yaf (yba y.2.known) = kt at *
   generalize hft : yaf y.2.fT = ft at *
   generalize hR : ybl y.2 = R at *
   generalize hq : y.1 = q at *
   generalize hrc : yaf (recL y) = rc at *
   have n1 : ¬ 9223372036854775807 < q.size + 1 := by omega
   have n2 : ¬ 9223372036854775807 < q.size + 1 + kt.size := by omega
   have n3 : ¬ 9223372036854775807 < q.size + 1 + kt.size + 1 := by omega
   have n4 : ¬ 9223372036854775807 < q.size + 1 + kt.size + 1 + ft.size := by omega
   have HRL := yab hrl
   have hil : i + 1 ≤ 1000000000 := by omega
   clear hkt hft hR hq hrc hdy hby hpy hmem RO hy hd hgd hlen hrl
   unfold yad at RC
   go_wp2_with (go_at_call 104; refine RC.out.mono ?_; rintro e w2 ⟨rfl, hb2⟩; have L2 := yab (hL.out.more hb2); clear hb2; dsimp only)
   have J2 : Hid (LJ w (w2.alloc (.cells #[.string R.text, .int .i64 R.br, .int .i64 R.bn, .int .i64 (R.ch 0), .int .i64 (R.ch 1), .int .i64 (R.ch 2), .int .i64 (R.ch 3), .int .i64 (R.ch 4), .int .i64 (R.ch 5), .int .i64 (R.kn 0), .int .i64 (R.kn 1), .int .i64 (R.kn 2), .int .i64 (R.kn 3), .int .i64 (R.kn 4), .int .i64 (R.kn 5)] 197)) (.slice (some ⟨pg, 0, none⟩) rl cap) u5 d i w2.heap.size R) := ⟨L2.out.more ((Below.refl _ _).alloc (Nat.le_refl _) _), ⟨heap_alloc_new _ _⟩⟩
   generalize w2.alloc (.cells #[.string R.text, .int .i64 R.br, .int .i64 R.bn, .int .i64 (R.ch 0), .int .i64 (R.ch 1), .int .i64 (R.ch 2), .int .i64 (R.ch 3), .int .i64 (R.ch 4), .int .i64 (R.ch 5), .int .i64 (R.kn 0), .int .i64 (R.kn 1), .int .i64 (R.kn 2), .int .i64 (R.kn 3), .int .i64 (R.kn 4), .int .i64 (R.kn 5)] 197) = V at *
   generalize w2.heap.size = rbk at *
   have JD : Hid (LJ w V.drew (.slice (some ⟨pg, 0, none⟩) rl cap) u5 d i rbk R) := J2.out.more ⟨rfl, rfl, rfl, Nat.le_refl _, fun _ _ => rfl⟩
   have TKJ := yab (fun W (hW : LJ w W (.slice (some ⟨pg, 0, none⟩) rl cap) u5 d i rbk R) => (TK.out W hW.li.bel).mono fun e w' q => (⟨q.1, hW.more q.2⟩ : e = .returned (.string kt) ∧ LJ w w' (.slice (some ⟨pg, 0, none⟩) rl cap) u5 d i rbk R))
   have FKJ := yab (fun W (hW : LJ w W (.slice (some ⟨pg, 0, none⟩) rl cap) u5 d i rbk R) => (FK.out W hW.li.bel).mono fun e w' q => (⟨q.1, hW.more q.2⟩ : e = .returned (.string ft) ∧ LJ w w' (.slice (some ⟨pg, 0, none⟩) rl cap) u5 d i rbk R))
   obtain ⟨k0, k1, k2, k3, k4, k5, k6, k7, k8, k9, k10, k11, k12, k13, k14⟩ := J2.out.rc.cells
   clear TK FK L2 J2 RC cp hL
   go_region_law (first
    |(go_simp; go_at_call 121; refine (TKJ.out _ (by first | exact J4.out | exact JD.out)).mono ?_; rintro e w4 ⟨rfl, hj4⟩; have J4 := yab hj4; clear hj4; obtain ⟨q0, q1, q2, q3, q4, q5, q6, q7, q8, q9, q10, q11, q12, q13, q14⟩ := J4.out.rc.cells; dsimp only)
    |(go_simp; go_at_call 123; refine (FKJ.out _ (by first | exact J4.out | exact JD.out)).mono ?_; rintro e w4 ⟨rfl, hj4⟩; have J4 := yab hj4; clear hj4; obtain ⟨q0, q1, q2, q3, q4, q5, q6, q7, q8, q9, q10, q11, q12, q13, q14⟩ := J4.out.rc.cells; dsimp only)
    |(refine yyp _ rfl (.tmp 28) (.tmp 43) rfl w.heap.size u5 (i + 1) _ (by rfl) (J4.out.li.lines.alloc _) w4.heap.size rc (by rfl) (by simp [← HL.out]) (by omega) (by have := J4.out.li.bel.size; simp; omega) ?_; intro g3 c3 w5 ho3 hgr3 hat3 hl3; have N5 := yab (ST.out w4 w5 u5 g3 c3 _ J4.out.li ho3 hgr3 hat3); clear ho3 hgr3 hat3 hl3; dsimp only))
   all_goals
    go_wp2
    go_roundw
    case rel => exact ⟨i + 1, by omega, by go_num, N5⟩
    case measure => simp [Go.RowKit.intOf]; omega
  ·have ei : i = rl := by omega
   subst ei
   have EL : Hid (((ybz d).take (i + 1)).map yaf = (ybz d).map yaf) := by
    have : (ybz d).length = i + 1 := by unfold ybz; rw [List.length_cons, List.length_map, hrl]
    unfold Hid
    rw [← this, List.take_length]
   go_wp2
   go_ret
   refine ⟨_, rfl, ?_, hL.out.bel⟩
   rw [← EL.out]
   exact hL.out.lines
end Go.Proofs.K
