/- The program's lines of a replica, and of a net, without memory. The lines that a net is told in. The program's tellers: numbers, lists joined, events, times. The program's teller of times. The program's teller of events. The program's Within, hasChangesOf. What reading records needs: a replica of the program's with any records. The program's IsWithin: of all that is known. A replica of the program's, whatever it knows: how it stands while a record is changed (Sg); each call carries it on. The program's isWithinItsCounts. The program's net: pairs of replicas (one pair at a time), the two places of a path. A replica while a record is changed: each call of Write, Remove, PullPath and Resolve carries it on. A replica of the program's: Read, Write, Remove, whatever it knows. -/
import Derived.Test.YtaelaldmibgibaaGreatDoorRows
import Derived.WalkKit
import Derived.WalkSpells
import Derived.WalkLawsBesides
import Derived.Deep.AppendLies
import Derived.Deep.MidRow
import Derived.Deep.DrawnRows
import Derived.BigQuiet
import Derived.Deep.QuietTactic
import Derived.Deep.RegionWith
import Derived.Deep.RegionHeld3
import Derived.Test.YtaelaldmibgibaaGreatDoorT01
import Derived.ChangeKeysEq
import Derived.Deep.RegionLaw
import Derived.Deep.DeepMust
import Derived.Maps.OwnSet
import Derived.Maps.OwnOps
import Derived.Maps.Range
import Derived.Maps.RangeWalk
import Derived.Sort.MapsRangeIn
import Derived.Sort.OwnSorted
import Derived.Lib.ItoaNum
import Derived.Lib.AtoiAll
import Derived.Lib.Strings
import Derived.Test.YtaelaldmibgibaaGreatDoorT02
import Derived.Lib.Split
import Derived.Lib.LastIndexByte
import Derived.Test.YtaelaldmibgibaaGreatDoorT03
import Derived.Test.YtaelaldmibgibaaGreatDoorT04
import Derived.Test.YtaelaldmibgibaaGreatDoorT05
import Derived.Test.YtaelaldmibgibaaGreatDoorT06
import Derived.Test.YtaelaldmibgibaaGreatDoorT07
import Derived.Test.YtaelaldmibgibaaGreatDoorT08
import Derived.Test.YtaelaldmibgibaaGreatDoorT09
import Derived.Test.YtaelaldmibgibaaGreatDoorT10
import Derived.Test.YtaelaldmibgibaaGreatDoorT11
import Derived.Test.YtaelaldmibgibaaGreatDoorT12
import Derived.Test.YtaelaldmibgibaaGreatDoorT13
import Derived.Test.YtaelaldmibgibaaGreatDoorT14
import Derived.Test.YtaelaldmibgibaaGreatDoorT15
import Derived.Test.YtaelaldmibgibaaGreatDoorT16
import Derived.Test.YtaelaldmibgibaaGreatDoorT17
import Derived.Laws.StructEq
import Derived.Outline

set_option linter.unusedVariables false
set_option linter.unusedSimpArgs false
set_option linter.unusedSectionVars false
set_option maxHeartbeats 2000000
set_option maxRecDepth 100000

namespace Go.Proofs.YtaelaldmibgibaaGreatDoor
open Go.RowKit Go.Lib
theorem ytp (c : UInt8) : ∀ l : List Bs, l ≠ [] → yft c l ++ [c] = (l.map (fun x => x ++ [c])).flatten
 |[], h => absurd rfl h
 |[x], _ => by simp [yft]
 |x :: y :: l, _ => by
  rw [yjb, List.append_assoc, List.cons_append, ytp c (y :: l) (by simp)]
  simp
def recL (y : ByteArray × DS) : Bs := bs y.1 ++ 32 :: (ycp y.2.known ++ 32 :: (if y.2.there = true then decDigits y.2.by_ ++ 58 :: decDigits y.2.num ++ 32 :: (ycp y.2.chg ++ 32 :: 61 :: ylo y.2.text) else [45]))
def ybp (d : DR) : List Bs := (bs yjv ++ ycp d.com) :: d.recs.map recL
def ydi (m : List DR) : List Bs := (bs yib ++ decDigits m.length) :: (m.map ybp).flatten
theorem recL_T (y : ByteArray × DS) : recL y ++ [10] = bs y.1 ++ y.2.T := by
 unfold recL DS.T DS.tail
 cases y.2.there <;> simp
theorem linesD_T (d : DR) : ((ybp d).map (fun x => x ++ [10])).flatten = d.T := by
 unfold ybp DR.T drsT
 rw [List.map_cons, List.map_map, List.flatten_cons]
 have : d.recs.map ((fun x => x ++ [10]) ∘ recL) = d.recs.map (fun r => bs r.1 ++ r.2.T) := List.map_congr_left (fun y _ => recL_T y)
 rw [this]
 simp
theorem linesN_T (m : List DR) : yft 10 (ydi m) ++ [10] = ynz m := by
 rw [ytp 10 _ (by simp [ydi])]
 unfold ydi ynz yvy
 rw [List.map_cons, List.flatten_cons, List.map_flatten, List.map_map]
 have : ∀ l : List DR, (l.map (List.map (fun x => x ++ [10]) ∘ ybp)).flatten.flatten = (l.map DR.T).flatten := fun l => by
  induction l with
  |nil => rfl
  |cons d l ih => simp only [List.map_cons, List.flatten_cons, List.flatten_append, Function.comp, linesD_T, ih]
 rw [this]
 simp
theorem ylr (k : Nat) (hk : k ≤ 1000000000) (w : World) (hg : yli w) :
  Calls Tryz.prog 72 #[.int .i64 k] w fun e w' => e = .returned (.string (yax (decDigits k))) ∧ Below w.heap.size w w' := by
 refine (Tryz.strconv_Itoa _ (by omega) (by omega) w hg.tab).mono ?_
 rintro e w' ⟨rfl, q, os, rfl⟩
 refine ⟨?_, ypc _ q os⟩
 unfold Lib.itoa
 rw [if_neg (by omega), Int.toNat_natCast]
 rfl
theorem join_sep (c : UInt8) : ∀ ps : List Bs, Lib.join ps [c] = yft c ps
 |[] => rfl
 |x :: l => by
  rw [Lib.join_cons]
  rfl
theorem join_row (c : UInt8) (base : Nat) (v : Value) (l : List ByteArray) (w : World) (h : w.ownsRow base 9 1 v l.length (svs l)) (hl : l.length ≤ 100000000) (hs : (yft c (l.map bs)).length ≤ 10000000000) :
  Calls Tryz.prog 38 #[v, .string ⟨#[c]⟩] w fun e w' => e = .returned (.string (yax (yft c (l.map bs)))) ∧ Below w.heap.size w w' := by
 rcases h.2 with ⟨rfl, h0⟩ | ⟨g, cap, cur, rfl, hbase, hb, h1, h2, h3, h4⟩
 ·have : l = [] := List.length_eq_zero_iff.1 h0
  subst this
  refine (Tryz.strings_Join_none none 0 ⟨#[c]⟩ w).mono ?_
  rintro e w' ⟨rfl, rfl⟩
  exact ⟨rfl, Below.refl _ _⟩
 ·have hc : ∀ (j : Nat) x, l[j]? = some x → w.cell? ⟨g, 0 + j, none⟩ = some (.string x) := fun j x hx => by
   rw [Nat.zero_add]
   have hj := (List.getElem?_eq_some_iff.1 hx).1
   rw [World.ownsRow.cellAt h j (by omega)]
   unfold svs
   rw [List.getElem?_map, hx]
   rfl
  have e : Lib.join (l.map (·.data.toList)) (⟨#[c]⟩ : ByteArray).data.toList = yft c (l.map bs) := join_sep c _
  refine (Tryz.strings_Join g 0 cap l ⟨#[c]⟩ w hc (Array.getElem?_eq_some_iff.1 hb).1 (by omega) h1 (by rw [e]; omega)).mono ?_
  rintro e' w' ⟨rfl, hb'⟩
  rw [e]
  exact ⟨rfl, hb'⟩
structure TT (w wr : World) (t : Nat → Int) (v : Value) (l : List ByteArray) : Prop where
 bel : Below w.heap.size w wr
 tc : ∀ j, j < 6 → wr.cell? ⟨w.heap.size, j, none⟩ = some (.int .i64 (t j))
 own : wr.ownsRow (w.heap.size + 1) 9 1 v l.length (svs l)
 lt : w.heap.size < wr.heap.size
theorem TT.step {w wr w2 w3 : World} {t : Nat → Int} {v : Value} {l : List ByteArray} (h : TT w wr t v l) (hb : Below wr.heap.size wr w2) (o : Obj) (y : ByteArray) {g cap : Nat}
  (ho : w3.ownsRow (w.heap.size + 1) 9 1 (.slice (some ⟨g, 0, none⟩) (l.length + 1) cap) (l.length + 1) (svs l ++ [.string y])) (hg : (w2.alloc o).grownBy w3 v.ownBlock) : TT w w3 t (.slice (some ⟨g, 0, none⟩) (l.length + 1) cap) (l ++ [y]) := by
 have hz := hb.size
 have hlt := h.lt
 have hne : ∀ k, v.ownBlock = some k → w.heap.size + 1 ≤ k := fun k hk => (World.ownsRow.lt h.own k hk).1
 refine ⟨?_, fun j hj => ?_, ?_, ?_⟩
 ·exact ydb ((h.bel.trans (hb.mono h.bel.size)).alloc (by omega) _) hg (fun k hk => by have := hne k hk; omega)
 ·have hbk := hg.block w.heap.size (by simp; omega) (fun e => by have := hne _ e.symm; omega)
  rw [World.cell?_of_block (w := w2.alloc o) hbk, World.cell?_alloc_old _ _ _ (by simp only; omega), hb.cell (by simp only; omega)]
  exact h.tc j hj
 ·rw [List.length_append, yeo]
  exact ho
 ·have := hg.size
  simp at this
  omega
theorem yha (c : List Nat) (n : Nat) (hn : c.length = n) (h1 : 1 ≤ n) (h6 : n ≤ 6) (hc : ∀ v ∈ c, v ≤ 1000000000) (w : World) (hg : yli w) :
  Calls Tryz.prog 121 #[.agg #[.int .i64 (lfn c 0), .int .i64 (lfn c 1), .int .i64 (lfn c 2), .int .i64 (lfn c 3), .int .i64 (lfn c 4), .int .i64 (lfn c 5)], .int .i64 n] w fun e w' => e = .returned (.string (yax (ycp c))) ∧ Below w.heap.size w w' := by
 have T0 : Hid (TT w (w.alloc (.cells #[.int .i64 (lfn c 0), .int .i64 (lfn c 1), .int .i64 (lfn c 2), .int .i64 (lfn c 3), .int .i64 (lfn c 4), .int .i64 (lfn c 5)] 186)) (lfn c) (.slice none 0 0) []) := ⟨(Below.refl _ _).alloc (Nat.le_refl _) _, fun j hj => yrx w (lfn c) _ j hj, World.ownsRow_nil _ _ _ _, by simp⟩
 have GL : Hid (∀ wr, Below w.heap.size w wr → yli wr) := fun wr hb => hg.below hb
 have IT : Hid (∀ i, i < n → ∀ wr, yli wr → Calls Tryz.prog 72 #[.int .i64 (lfn c i)] wr fun e w' => e = .returned (.string (yax (decDigits (c.getD i 0)))) ∧ Below wr.heap.size wr w') := fun i hi wr hw => by
  refine ylr (c.getD i 0) ?_ wr hw
  rw [List.getD_eq_getElem?_getD, List.getElem?_eq_getElem (by omega)]
  exact hc _ (List.getElem_mem _)
 have TK : Hid (∀ i, i < n → (c.take i).map (fun k => yax (decDigits k)) ++ [yax (decDigits (c.getD i 0))] = (c.take (i + 1)).map (fun k => yax (decDigits k))) := fun i hi => yqm (fun k => yax (decDigits k)) c i 0 (by omega)
 have LN : Hid (∀ i, i ≤ n → ((c.take i).map (fun k => yax (decDigits k))).length = i) := fun i hi => by rw [List.length_map, List.length_take]; omega
 have JN : Hid (∀ (W : World) (v : Value), TT w W (lfn c) v ((c.take n).map (fun k => yax (decDigits k))) → Calls Tryz.prog 38 #[v, .string ⟨#[44]⟩] W fun e w' => e = .returned (.string (yax (ycp c))) ∧ Below W.heap.size W w') := fun W v hT => by
  have e : yft 44 (((c.take n).map (fun k => yax (decDigits k))).map bs) = ycp c := by
   unfold ycp
   rw [← hn, List.take_length, List.map_map]
   congr 1
  have hl : (ycp c).length ≤ 10000000000 := by
   have : ∀ l : List Nat, (∀ v ∈ l, v ≤ 1000000000) → (ycp l).length ≤ 12 * l.length := fun l => by
    induction l with
    |nil => intro _; simp [ycp, yft]
    |cons a l ih =>
     intro hl
     have h1 := ih (fun v hv => hl v (List.mem_cons_of_mem _ hv))
     have h2 := ydh 10 a (Nat.lt_of_le_of_lt (hl a (by simp)) (by decide))
     cases l with
     |nil => simp [ycp, yft]; omega
     |cons b l =>
      unfold ycp at h1 ⊢
      rw [List.map_cons, List.map_cons, yjb]
      rw [List.map_cons] at h1
      simp at h1 ⊢
      omega
   have := this c hc
   omega
  have := join_row 44 (w.heap.size + 1) v _ W hT.own (by rw [LN.out n (Nat.le_refl _)]; omega) (by rw [e]; exact hl)
  rw [e] at this
  exact this
 clear hg
 generalize ht : ycp c = tt at *
 clear ht
 have hn6 : (n : Int) ≤ 6 := by omega
 have hn0 : (0 : Int) ≤ (n : Int) := by omega
 go_enter Tryz.func121, Tryz.ntmps121
 go_wp2
 go_loopw [5, 11] (fun v iv wr => ∃ i : Nat, i ≤ n ∧ iv = .int .i64 i ∧ Hid (TT w wr (lfn c) v ((c.take i).map (fun k => yax (decDigits k))))) (fun _ iv _ => n - (Go.RowKit.intOf iv).toNat)
 case atStart => exact ⟨0, Nat.zero_le _, rfl, T0⟩
 case round =>
  clear T0
  obtain ⟨i, hi, rfl, hT⟩ := hrel
  by_cases hlt : i < n
  ·have ti := hT.out.tc i (by omega)
   have hll := LN.out i hi
   obtain ⟨dd, hdd⟩ : ∃ dd, dd = yax (decDigits (c.getD i 0)) := ⟨_, rfl⟩
   have IT' : Hid (∀ wr, yli wr → Calls Tryz.prog 72 #[.int .i64 (lfn c i)] wr fun e w' => e = .returned (.string dd) ∧ Below wr.heap.size wr w') := by rw [hdd]; exact IT.out i hlt
   have TK' := TK.out i hlt
   rw [← hdd] at TK'
   have TK2 := yac TK'
   clear TK' hdd
   go_wp2_with (first
    |(go_at_call 72; refine (IT'.out _ (GL.out _ hT.out.bel)).mono ?_; rintro e w2 ⟨rfl, hb2⟩; have HB2 := yac hb2; clear hb2; have hrow2 := yac (yan (w' := w2) hT.out.own (fun k e => HB2.out.block k (World.ownsRow.lt hT.out.own k e).2)))
    |(at_builtin; refine ypw _ rfl (.tmp 15) (.tmp 18) rfl (w.heap.size + 1) _ _ _ rfl (hrow2.out.alloc _) w2.heap.size dd rfl (by simp) (by omega) (by have := HB2.out.size; have := hT.out.lt; simp; omega) ?_; intro g2 c2 w3 ho3 hgr3 hat3 hl3))
   have T3 := yac (hT.out.step HB2.out _ _ ho3 hgr3)
   clear ho3 hgr3 hat3 hl3
   rw [TK2.out, hll] at T3
   go_roundw
   case rel => exact ⟨i + 1, by omega, by go_num, T3⟩
   case measure => simp [Go.RowKit.intOf]; omega
  ·have ei : i = n := by omega
   subst ei
   go_wp2_with (go_at_call 38; refine (JN.out _ _ hT.out).mono ?_; rintro e w2 ⟨rfl, hb2⟩)
   go_ret
   exact ⟨rfl, hT.out.bel.trans (hb2.mono hT.out.bel.size)⟩
structure EvC (w V : World) (x y : Int) : Prop where
 c0 : V.cell? ⟨w.heap.size, 0, none⟩ = some (.int .i64 x)
 c1 : V.cell? ⟨w.heap.size, 1, none⟩ = some (.int .i64 y)
 bel : Below w.heap.size w V
 lt : w.heap.size < V.heap.size
theorem EvC.more {w V V' : World} {x y : Int} (h : EvC w V x y) (hb : Below V.heap.size V V') : EvC w V' x y :=
 ⟨(hb.cell (p := ⟨w.heap.size, 0, none⟩) h.lt).trans h.c0, (hb.cell (p := ⟨w.heap.size, 1, none⟩) h.lt).trans h.c1, h.bel.trans (hb.mono h.bel.size), Nat.lt_of_lt_of_le h.lt hb.size⟩
theorem ypq (r k : Nat) (hr : r ≤ 1000000000) (hk : k ≤ 1000000000) (w : World) (hg : yli w) :
  Calls Tryz.prog 178 #[.agg #[.int .i64 r, .int .i64 k]] w fun e w' => e = .returned (.string (yax (decDigits r ++ 58 :: decDigits k))) ∧ Below w.heap.size w w' := by
 have E0 : Hid (EvC w ((w.alloc (.cells #[.int .i64 r, .int .i64 k] 191)).drew) r k) := ⟨(by simp only [World.cell?]; rw [show ((w.alloc (.cells #[.int .i64 r, .int .i64 k] 191)).drew).heap = (w.alloc (.cells #[.int .i64 r, .int .i64 k] 191)).heap from rfl, heap_alloc_new]; rfl), (by simp only [World.cell?]; rw [show ((w.alloc (.cells #[.int .i64 r, .int .i64 k] 191)).drew).heap = (w.alloc (.cells #[.int .i64 r, .int .i64 k] 191)).heap from rfl, heap_alloc_new]; rfl), ((Below.refl _ _).alloc (Nat.le_refl _) _).drew, by simp⟩
 have I1 : Hid (∀ W, EvC w W r k → Calls Tryz.prog 72 #[.int .i64 r] W fun e w' => e = .returned (.string (yax (decDigits r))) ∧ EvC w w' r k) := fun W hW => (ylr r hr W (hg.below hW.bel)).mono fun e w' h => ⟨h.1, hW.more h.2⟩
 have I2 : Hid (∀ W, EvC w W r k → Calls Tryz.prog 72 #[.int .i64 k] W fun e w' => e = .returned (.string (yax (decDigits k))) ∧ EvC w w' r k) := fun W hW => (ylr k hk W (hg.below hW.bel)).mono fun e w' h => ⟨h.1, hW.more h.2⟩
 have HL : Hid (yax (decDigits r ++ 58 :: decDigits k) = yax (decDigits r) ++ (⟨#[58]⟩ : ByteArray) ++ yax (decDigits k)) := by
  unfold Hid
  apply yig
  rw [ybe, ybj, ybj, ybe, ybe, List.append_assoc]
  rfl
 rw [HL.out]
 have s1 : (yax (decDigits r)).size ≤ 1000 := by rw [ycf]; have := ydh 10 r (Nat.lt_of_le_of_lt hr (by decide)); omega
 have s2 : (yax (decDigits k)).size ≤ 1000 := by rw [ycf]; have := ydh 10 k (Nat.lt_of_le_of_lt hk (by decide)); omega
 generalize yax (decDigits r) = dr at *
 generalize yax (decDigits k) = dk at *
 generalize (r : Int) = ri at *
 generalize (k : Int) = ki at *
 have n1 : ¬ 9223372036854775807 < dr.size + 1 := by omega
 have n2 : ¬ 9223372036854775807 < dr.size + 1 + dk.size := by omega
 have n3 : ¬ 9223372036854775807 < (dr ++ (⟨#[58]⟩ : ByteArray)).size + dk.size := by
  rw [ByteArray.size_append]
  show ¬ 9223372036854775807 < dr.size + 1 + dk.size
  omega
 clear hg HL
 go_enter Tryz.func178, Tryz.ntmps178
 go_wp2_with fail
 go_region_law (first
  |(go_simp; go_at_call_of 72 (Value.int .i64 ri); refine (I1.out _ (by first | exact E2.out | exact E0.out)).mono ?_; rintro e w1 ⟨rfl, hE⟩; have E2 := yac hE; have a0 := hE.c0; have a1 := hE.c1; clear hE; dsimp only)
  |(go_simp; go_at_call_of 72 (Value.int .i64 ki); refine (I2.out _ (by first | exact E2.out | exact E0.out)).mono ?_; rintro e w1 ⟨rfl, hE⟩; have E2 := yac hE; have a0 := hE.c0; have a1 := hE.c1; clear hE; dsimp only))
 all_goals
  go_wp2
  go_ret
  exact ⟨rfl, E2.out.bel⟩
attribute [local go_sem ↓] eqTime
attribute [local go_sem] yqz
structure W2 (w V : World) (a b : Nat → Int) : Prop where
 a : ∀ j, j < 6 → V.cell? ⟨w.heap.size, j, none⟩ = some (.int .i64 (a j))
 b : ∀ j, j < 6 → V.cell? ⟨w.heap.size + 1, j, none⟩ = some (.int .i64 (b j))
 bel : Below w.heap.size w V
 size : w.heap.size + 2 ≤ V.heap.size
theorem W2.made (w : World) (a b : Nat → Int) : W2 w ((w.alloc (.cells #[.int .i64 (a 0), .int .i64 (a 1), .int .i64 (a 2), .int .i64 (a 3), .int .i64 (a 4), .int .i64 (a 5)] 186)).alloc (.cells #[.int .i64 (b 0), .int .i64 (b 1), .int .i64 (b 2), .int .i64 (b 3), .int .i64 (b 4), .int .i64 (b 5)] 186)) a b := by
 have hz : (w.alloc (.cells #[.int .i64 (a 0), .int .i64 (a 1), .int .i64 (a 2), .int .i64 (a 3), .int .i64 (a 4), .int .i64 (a 5)] 186)).heap.size = w.heap.size + 1 := by simp
 refine ⟨fun j hj => ?_, fun j hj => ?_, ((Below.refl _ _).alloc (Nat.le_refl _) _).alloc (by simp) _, by simp⟩
 ·rw [World.cell?_alloc_old _ _ _ (by simp)]
  exact yrx w a _ j hj
 ·rw [← hz]
  exact yrx _ b _ j hj
theorem W2.more {w V V' : World} {a b : Nat → Int} (h : W2 w V a b) (hb : Below V.heap.size V V') : W2 w V' a b :=
 ⟨fun j hj => (hb.cell (p := ⟨w.heap.size, j, none⟩) (by have := h.size; simp only; omega)).trans (h.a j hj), fun j hj => (hb.cell (p := ⟨w.heap.size + 1, j, none⟩) (by have := h.size; simp only; omega)).trans (h.b j hj), h.bel.trans (hb.mono h.bel.size), Nat.le_trans h.size hb.size⟩
theorem Within_any (a b : Nat → Int) (w : World) :
  Calls Tryz.prog 198 #[.agg #[.int .i64 (a 0), .int .i64 (a 1), .int .i64 (a 2), .int .i64 (a 3), .int .i64 (a 4), .int .i64 (a 5)], .agg #[.int .i64 (b 0), .int .i64 (b 1), .int .i64 (b 2), .int .i64 (b 3), .int .i64 (b 4), .int .i64 (b 5)]] w fun e w' => e = .returned (.bool (leB a b)) ∧ Below w.heap.size w w' := by
 have GB := yac (fun V ty => ynw V a b ty)
 have LE : Hid (leB a b = eqT (yab a b) b) := rfl
 rw [LE.out]
 generalize yab a b = c at *
 clear LE
 have S0 := yac (W2.made w a b)
 go_enter Tryz.func198, Tryz.ntmps198
 go_wp2_with fail
 generalize (w.alloc (.cells #[.int .i64 (a 0), .int .i64 (a 1), .int .i64 (a 2), .int .i64 (a 3), .int .i64 (a 4), .int .i64 (a 5)] 186)).alloc (.cells #[.int .i64 (b 0), .int .i64 (b 1), .int .i64 (b 2), .int .i64 (b 3), .int .i64 (b 4), .int .i64 (b 5)] 186) = V at *
 have a0 := S0.out.a 0 (by omega)
 have a1 := S0.out.a 1 (by omega)
 have a2 := S0.out.a 2 (by omega)
 have a3 := S0.out.a 3 (by omega)
 have a4 := S0.out.a 4 (by omega)
 have a5 := S0.out.a 5 (by omega)
 have b0 := S0.out.b 0 (by omega)
 have b1 := S0.out.b 1 (by omega)
 have b2 := S0.out.b 2 (by omega)
 have b3 := S0.out.b 3 (by omega)
 have b4 := S0.out.b 4 (by omega)
 have b5 := S0.out.b 5 (by omega)
 have hz := S0.out.size
 have hn0 : w.heap.size ≠ V.heap.size := by omega
 have hn1 : w.heap.size + 1 ≠ V.heap.size := by omega
 have d0 : ∀ o, (V.alloc o).cell? ⟨w.heap.size + 1, 0, none⟩ = some (.int .i64 (b 0)) := fun o => (World.cell?_alloc_old _ _ _ hn1).trans b0
 have d1 : ∀ o, (V.alloc o).cell? ⟨w.heap.size + 1, 1, none⟩ = some (.int .i64 (b 1)) := fun o => (World.cell?_alloc_old _ _ _ hn1).trans b1
 have d2 : ∀ o, (V.alloc o).cell? ⟨w.heap.size + 1, 2, none⟩ = some (.int .i64 (b 2)) := fun o => (World.cell?_alloc_old _ _ _ hn1).trans b2
 have d3 : ∀ o, (V.alloc o).cell? ⟨w.heap.size + 1, 3, none⟩ = some (.int .i64 (b 3)) := fun o => (World.cell?_alloc_old _ _ _ hn1).trans b3
 have d4 : ∀ o, (V.alloc o).cell? ⟨w.heap.size + 1, 4, none⟩ = some (.int .i64 (b 4)) := fun o => (World.cell?_alloc_old _ _ _ hn1).trans b4
 have d5 : ∀ o, (V.alloc o).cell? ⟨w.heap.size + 1, 5, none⟩ = some (.int .i64 (b 5)) := fun o => (World.cell?_alloc_old _ _ _ hn1).trans b5
 go_region_law (first
  |(go_simp; go_at_call 128; refine (GB.out V.drew _).mono ?_; rintro e w1 ⟨rfl, hb1⟩; have S1 := yac (S0.out.more ⟨hb1.os, hb1.tape, hb1.output, hb1.size, hb1.block⟩); clear hb1; have c0 := S1.out.b 0 (by omega); have c1 := S1.out.b 1 (by omega); have c2 := S1.out.b 2 (by omega); have c3 := S1.out.b 3 (by omega); have c4 := S1.out.b 4 (by omega); have c5 := S1.out.b 5 (by omega); dsimp only))
 all_goals
  go_wp2
  go_ret
  exact ⟨rfl, S1.out.bel⟩
theorem ycz (R : Rec) (k : Nat → Int) (w : World) :
  Calls Tryz.prog 223 #[.agg #[.int .i64 (k 0), .int .i64 (k 1), .int .i64 (k 2), .int .i64 (k 3), .int .i64 (k 4), .int .i64 (k 5)], ybs R] w fun e w' => e = .returned (.bool (leB R.ch k)) ∧ Below w.heap.size w w' := by
 unfold ybs
 have WI := yac (fun V => Within_any R.ch k V)
 generalize leB R.ch k = z at *
 go_enter Tryz.func223, Tryz.ntmps223
 go_wp2_with (go_at_call 198; refine (WI.out _).mono ?_; rintro e w1 ⟨rfl, hb1⟩)
 go_ret
 exact ⟨rfl, (((Below.refl _ _).alloc (Nat.le_refl _) _).alloc (by simp) _).trans (hb1.mono (by simp; omega))⟩
end Go.Proofs.YtaelaldmibgibaaGreatDoor

namespace Go.Proofs.YtaelaldmibgibaaGreatDoor
open Go.RowKit Go.Lib Go.Maps
structure Rp (w : World) (rb s : Nat) (cm : Nat → Int) (mb : Nat) (E : yat) : Prop where
 rep : ybl w rb s cm mb
 own : w.ownsMap Tryz.prog 9 yaq mb E.length (ybt E)
 ris : yau E
section
variable {w w' : World} {rb s mb : Nat} {cm : Nat → Int} {E : yat}
theorem Rp.keep (h : Rp w rb s cm mb E) (h1 : w'.heap[rb]? = w.heap[rb]?) (h2 : w'.heap[mb]? = w.heap[mb]?) : Rp w' rb s cm mb E := ⟨h.rep.keep h1, ybc h.own h2, h.ris⟩
theorem Rp.below (h : Rp w rb s cm mb E) (hb : Below w.heap.size w w') : Rp w' rb s cm mb E := h.keep (hb.block _ h.rep.lt) (hb.block _ h.own.lt)
end
theorem keep_must (rb s : Nat) (cm : Nat → Int) (mb : Nat) (w : World) (E : yat) (h : Rp w rb s cm mb E) (hl : E.length < maxLen) (p : ByteArray) (hp : p.size ≤ 1000000000000) (R : Rec) (h0 : 0 ≤ R.bn) (hk : (decide (0 < R.bn) || !eqT R.kn cm) = true) :
  Calls Tryz.prog 112 #[.pointer (some ⟨rb, 0, none⟩), .string p, yae R] w fun e w' => e = .returned (.tuple #[]) ∧ Rp w' rb s cm mb (ytc p R E) ∧ Fr (fun k => k = mb) w w' := by
 unfold yae
 by_cases hb : 0 < R.bn
 ·refine (keep_in rb s cm mb w h.rep E h.ris hl h.own p hp R hb).mono ?_
  rintro e w' ⟨rfl, h1, h2, h3⟩
  exact ⟨rfl, ⟨h1, h2, ykm p R E h.ris⟩, h3⟩
 ·refine (keep_kn rb s cm mb w h.rep E h.ris hl h.own p hp R (by omega) (by simpa [hb] using hk)).mono ?_
  rintro e w' ⟨rfl, h1, h2, h3⟩
  exact ⟨rfl, ⟨h1, h2, ykm p R E h.ris⟩, h3⟩
end Go.Proofs.YtaelaldmibgibaaGreatDoor

namespace Go.Proofs.YtaelaldmibgibaaGreatDoor
open Go.RowKit Go.Lib Go.Maps
attribute [local go_sem ↓] eqTime
attribute [local go_sem] yqz
theorem rising_one {E : yat} (hE : yau E) {x : ByteArray} {R R' : Rec} (h : (x, R) ∈ E) (h' : (x, R') ∈ E) : R = R' := by
 induction E with
 |nil => simp at h
 |cons z E ih =>
  obtain ⟨p1, p2⟩ := List.pairwise_cons.1 hE
  rcases List.mem_cons.1 h with a1 | a1
  ·rcases List.mem_cons.1 h' with b1 | b1
   ·have := a1.trans b1.symm; simpa using this
   ·rw [← a1] at p1
    have q := yio (p1 (x, R') b1)
    exact absurd rfl q
  ·rcases List.mem_cons.1 h' with b1 | b1
   ·rw [← b1] at p1
    have q := yio (p1 (x, R) a1)
    exact absurd rfl q
   ·exact ih p2 a1 b1
end Go.Proofs.YtaelaldmibgibaaGreatDoor

namespace Go.Proofs.YtaelaldmibgibaaGreatDoor
open Go.RowKit Go.Maps
theorem yos {w w1 w2 : World} {o : Obj} (h : Below w.heap.size w w1) (hb : Below (w1.alloc o).heap.size (w1.alloc o) w2) : Below w.heap.size w w2 :=
 (h.alloc h.size _).trans (hb.mono (by have := h.size; simp; omega))
def yfv (R : Rec) : Prop := ∃ r : Nat, r < 6 ∧ R.br = r
structure Rg (w : World) (rb s : Nat) (cm : Nat → Int) (mb : Nat) (E : yat) : Prop where
 rep : ybl w rb s cm mb
 own : w.ownsMap Tryz.prog 9 yaq mb E.length (ybt E)
 ris : yau E
 bn : ∀ x ∈ E, 0 ≤ x.2.bn ∧ yfv x.2
 len : E.length < 1000000
 c0 : 0 ≤ cm s
theorem Rg.keep {w w' : World} {rb s : Nat} {cm : Nat → Int} {mb : Nat} {E : yat} (h : Rg w rb s cm mb E) (h1 : w'.heap[rb]? = w.heap[rb]?) (h2 : w'.heap[mb]? = w.heap[mb]?) : Rg w' rb s cm mb E :=
 ⟨h.rep.keep h1, ybc h.own h2, h.ris, h.bn, h.len, h.c0⟩
theorem Rg.below {w w' : World} {rb s : Nat} {cm : Nat → Int} {mb : Nat} {E : yat} (h : Rg w rb s cm mb E) (hb : Below w.heap.size w w') : Rg w' rb s cm mb E := h.keep (hb.block _ h.rep.lt) (hb.block _ h.own.lt)
def yay (s : Nat) (cm : Nat → Int) : Option Rec → Rec
 |some R => ⟨R.text, R.br, R.bn, R.ch, upT R.kn s (cm s)⟩
 |none => ⟨⟨#[]⟩, 0, 0, fun _ => 0, cm⟩
theorem yai (rb s : Nat) (cm : Nat → Int) (mb : Nat) (E : yat) (w : World) (h : ybl w rb s cm mb) (ho : w.ownsMap Tryz.prog 9 yaq mb E.length (ybt E)) (p : ByteArray) (hp : p.size ≤ maxLen) :
  Calls Tryz.prog 104 #[.pointer (some ⟨rb, 0, none⟩), .string p] w fun e w' => e = .returned (yae (yay s cm (yas p E))) ∧ Below w.heap.size w w' := by
 cases hg : yas p E with
 |some R => exact yqv rb s cm mb w h E.length (ybt E) ho p hp R (by have := yjm p E; rw [hg] at this; exact this) (by have := ygi p E (ycx rec0); rw [hg] at this; exact this)
 |none => exact yte rb s cm mb w h E.length (ybt E) ho p hp (by have := yjm p E; rw [hg] at this; exact this) (by have := ygi p E (ycx rec0); rw [hg] at this; exact this)
theorem ybf {w : World} {rb s : Nat} {cm : Nat → Int} {mb : Nat} {E : yat} (h : Rg w rb s cm mb E) (p : ByteArray) : 0 ≤ (yay s cm (yas p E)).bn ∧ yfv (yay s cm (yas p E)) := by
 cases hg : yas p E with
 |none => exact ⟨Int.le_refl 0, 0, by omega, rfl⟩
 |some R => exact h.bn _ (yhx hg)
def ybn (cm : Nat → Int) (p : ByteArray) (R : Rec) (E : yat) : yat := if (decide (0 < R.bn) || !eqT R.kn cm) = true then ytc p R E else delE p E
theorem len_putE (E : yat) (p : ByteArray) (R : Rec) : (ytc p R E).length ≤ E.length + 1 := by
 unfold ytc
 have : (E.filter (fun x => slt x.1 p)).length + (E.filter (fun x => slt p x.1)).length ≤ E.length := by
  induction E with
  |nil => simp
  |cons y E ih =>
   rw [List.filter_cons, List.filter_cons]
   cases h1 : slt y.1 p <;> cases h2 : slt p y.1 <;> simp <;> first | omega | skip
   exact absurd (ygc h1 h2) (by rw [ybi]; simp)
 simp only [List.length_append, List.length_cons]
 omega
theorem yjn (rb s : Nat) (cm : Nat → Int) (mb : Nat) (E : yat) (w : World) (h : ybl w rb s cm mb) (ho : w.ownsMap Tryz.prog 9 yaq mb E.length (ybt E)) (hE : yau E) (hl : E.length < maxLen) (p : ByteArray) (hp : p.size ≤ 1000000000000) (R : Rec) (h0 : 0 ≤ R.bn) :
  Calls Tryz.prog 112 #[.pointer (some ⟨rb, 0, none⟩), .string p, yae R] w fun e w' => e = .returned (.tuple #[]) ∧ ybl w' rb s cm mb ∧ w'.ownsMap Tryz.prog 9 yaq mb (ybn cm p R E).length (ybt (ybn cm p R E)) ∧ Fr (fun k => k = mb) w w' := by
 unfold ybn
 split
 ·next hk =>
  refine (keep_must rb s cm mb w E ⟨h, ho, hE⟩ hl p hp R h0 hk).mono ?_
  rintro e w' ⟨rfl, h1, h2⟩
  exact ⟨rfl, h1.rep, h1.own, h2⟩
 ·next hk =>
  simp only [Bool.or_eq_true, decide_eq_true_eq, not_or] at hk
  unfold yae
  exact keep_out rb s cm mb w h E hE ho p hp R (by omega) (by simpa using hk.2)
theorem ybu (cm : Nat → Int) (p : ByteArray) (R : Rec) (E : yat) (h : yau E) : yau (ybn cm p R E) := by
 unfold ybn
 split
 ·exact ykm p R E h
 ·exact rising_del p E h
theorem yfy {cm : Nat → Int} {p : ByteArray} {R : Rec} {E : yat} {x : ByteArray × Rec} (h : x ∈ ybn cm p R E) : x = (p, R) ∨ x ∈ E := by
 unfold ybn at h
 split at h
 ·exact mem_putE h
 ·exact .inr (mem_delE h)
theorem yhg (cm : Nat → Int) (p : ByteArray) (R : Rec) (E : yat) : (ybn cm p R E).length ≤ E.length + 1 := by
 unfold ybn
 split
 ·exact len_putE E p R
 ·have := len_putE E p R
  unfold ytc at this
  unfold delE
  simp only [List.length_append, List.length_cons] at *
  omega
open Go.RowKit Go.Lib Go.Maps
def fdM (x : Value) : Sem Value := Instr.field 166 x 0
theorem fdEq (x : Value) : Instr.field 166 x 0 = fdM x := rfl
theorem run_fd (a b c : Int) (w : World) : (fdM (.agg #[.int .i64 a, .int .i64 b, .int .i64 c])).run Tryz.prog w = .ok (.int .i64 a) w := by
 unfold fdM
 simp [Instr.field, run_underlying Tryz.underlying166, asAgg, part, isAgg, run_underlying Tryz.underlying3]
attribute [local go_sem ↓] fdEq
attribute [local go_sem] run_fd
end Go.Proofs.YtaelaldmibgibaaGreatDoor

namespace Go.Proofs.YtaelaldmibgibaaGreatDoor
open Go.RowKit
theorem ypr.below {w w' : World} {nb n pb : Nat} {rbs : List Nat} (h : ypr w nb n pb rbs) (hn : nb < w.heap.size) (hp : pb < w.heap.size) (hb : Below w.heap.size w w') : ypr w' nb n pb rbs := by
 obtain ⟨cap, hc⟩ := h.blk
 exact ⟨⟨cap, by rw [hb.block nb hn]; exact hc⟩, h.len, fun r b hr => (hb.cell (p := ⟨pb, r, none⟩) hp).trans (h.row r b hr), h.n6⟩
def okP (n : Nat) (a b : Int) : Bool := (decide (0 ≤ a ∧ a < n) && decide (0 ≤ b ∧ b < n)) && !(a == b)
theorem ykt (nb n pb : Nat) (rbs : List Nat) (g cap : Nat) (a b : Int) (w : World) (h : ypr w nb n pb rbs) (hn : nb < w.heap.size) (hp : pb < w.heap.size) (hg : g < w.heap.size) (g0 : w.cell? ⟨g, 0, none⟩ = some (.int .i64 a)) (g1 : w.cell? ⟨g, 1, none⟩ = some (.int .i64 b)) :
  Calls Tryz.prog 40 #[.pointer (some ⟨nb, 0, none⟩), .slice (some ⟨g, 0, none⟩) 1 cap] w fun e w' => e = .returned (.bool (okP n a b)) ∧ Below w.heap.size w w' := by
 have HA : Hid (∀ V r, Below w.heap.size w V → Calls Tryz.prog 36 #[.pointer (some ⟨nb, 0, none⟩), .int .i64 r] V fun e w' => e = .returned (.bool (decide (0 ≤ r ∧ r < n))) ∧ w' = V) := fun V r hb => yva nb n pb rbs r V (h.below hn hp hb)
 have BB : Hid (∀ o, Below w.heap.size w (w.alloc o)) := fun o => (Below.refl _ _).alloc (Nat.le_refl _) o
 unfold okP
 clear h hn hp
 generalize hz1 : decide (0 ≤ a ∧ a < n) = z1
 generalize hz2 : decide (0 ≤ b ∧ b < n) = z2
 generalize hz3 : (a == b) = z3
 obtain ⟨zz, hzz⟩ : ∃ zz, zz = ((z1 && z2) && !z3) := ⟨_, rfl⟩
 rw [← hzz]
 cases z1 <;> cases z2 <;> cases z3
 all_goals
  have HZ := yac hzz
  clear hzz
  go_enter Tryz.func40, Tryz.ntmps40
  go_wp2
  go_loopw [9] (fun i wi => (i = .int .i64 0 ∧ wi = w) ∨ (i = .int .i64 1 ∧ Hid (zz = true) ∧ Hid (Below w.heap.size w wi))) (fun i _ => 1 - (intOf i).toNat)
  case atStart => exact .inl ⟨rfl, rfl⟩
  case round =>
   rcases hrel with ⟨rfl, rfl⟩ | ⟨rfl, hzt, hb⟩
   ·go_wp2_with (go_at_call 36; refine (HA.out _ _ (BB.out _)).mono ?_; rintro e wn ⟨rfl, rfl⟩)
    first
     |(go_ret; exact ⟨by rw [HZ.out]; rfl, BB.out _⟩)
     |exact ⟨.inr ⟨rfl, HZ.out, BB.out _⟩, by simp [intOf]⟩
   ·go_wp2
    go_ret
    exact ⟨by rw [hzt.out]; rfl, hb.out⟩
theorem yrv (g cap : Nat) (a b : Nat) (ha : a < 6) (hb : b < 6) (w : World) (hg : g < w.heap.size) (g0 : w.cell? ⟨g, 0, none⟩ = some (.int .i64 a)) (g1 : w.cell? ⟨g, 1, none⟩ = some (.int .i64 b)) :
  Calls Tryz.prog 41 #[.slice (some ⟨g, 0, none⟩) 1 cap] w fun e w' => e = .returned (.bool true) ∧ Below w.heap.size w w' := by
 have la : ∀ h, ([Value.bool false, Value.bool false, Value.bool false, Value.bool false, Value.bool false, Value.bool false])[a]'h = .bool false := by
  intro h
  match a, ha with
  |0, _ | 1, _ | 2, _ | 3, _ | 4, _ | 5, _ => rfl
 have lb : ∀ h, ([Value.bool false, Value.bool false, Value.bool false, Value.bool false, Value.bool false, Value.bool false])[b]'h = .bool false := by
  intro h
  match b, hb with
  |0, _ | 1, _ | 2, _ | 3, _ | 4, _ | 5, _ => rfl
 have BB : Hid (∀ o o', Below w.heap.size w ((w.alloc o).alloc o').drew) := fun o o' => ((((Below.refl _ _).alloc (Nat.le_refl _) o)).alloc (by simp) o').drew
 go_enter Tryz.func41, Tryz.ntmps41
 go_wp2
 go_loopw [8] (fun i wi => (i = .int .i64 0 ∧ wi = w.alloc (.cells #[.bool false, .bool false, .bool false, .bool false, .bool false, .bool false] 140)) ∨ (i = .int .i64 1 ∧ Hid (Below w.heap.size w wi))) (fun i _ => 1 - (intOf i).toNat)
 case atStart => exact .inl ⟨rfl, rfl⟩
 case round =>
  rcases hrel with ⟨rfl, rfl⟩ | ⟨rfl, hb⟩
  ·go_wp2
   go_region
   all_goals
    go_wp2
    refine ⟨.inr ⟨rfl, ?_⟩, by simp [intOf]⟩
    exact BB.out _ _
  ·go_wp2
   go_ret
   exact ⟨rfl, hb.out⟩
open Go.RowKit Go.Maps
structure Sg (w V : World) (rb s mb b : Nat) (cm : Nat → Int) (E : yat) (R : Rec) (eb : Nat) (eo : Option Obj) : Prop where
 rc : yap V b R
 rep : ybl V rb s cm mb
 own : V.ownsMap Tryz.prog 9 yaq mb E.length (ybt E)
 fr : Fr (fun k => k = rb ∨ k = mb) w V
 rlt : rb < w.heap.size
 mlt : mb < w.heap.size
 bge : w.heap.size ≤ b
 ev : ∀ o, eo = some o → V.heap[eb]? = some o ∧ eb ≠ b ∧ w.heap.size ≤ eb
section
variable {w V V' : World} {rb s mb b : Nat} {cm : Nat → Int} {E : yat} {R R' : Rec} {eb : Nat} {eo : Option Obj}
theorem Sg.elt (S : Sg w V rb s mb b cm E R eb eo) (o : Obj) (ho : eo = some o) : eb < V.heap.size := (Array.getElem?_eq_some_iff.1 (S.ev o ho).1).1
theorem Sg.below (S : Sg w V rb s mb b cm E R eb eo) (hb : Below V.heap.size V V') : Sg w V' rb s mb b cm E R eb eo :=
 ⟨S.rc.more hb, S.rep.keep (hb.block _ S.rep.lt), ybc S.own (hb.block _ S.own.lt), S.fr.trans (Fr.of_below hb), S.rlt, S.mlt, S.bge, fun o ho => ⟨by rw [hb.block _ (S.elt o ho)]; exact (S.ev o ho).1, (S.ev o ho).2⟩⟩
theorem Sg.drewN (S : Sg w V rb s mb b cm E R eb eo) (k : Nat) : Sg w (V.drewN k) rb s mb b cm E R eb eo := S.below ⟨rfl, rfl, rfl, Nat.le_refl _, fun _ _ => rfl⟩
theorem Sg.onRec (S : Sg w V rb s mb b cm E R eb eo) (hf : Fr (fun k => k = b) V V') (hr : yap V' b R') : Sg w V' rb s mb b cm E R' eb eo := by
 have h1 : rb ≠ b := by have := S.rlt; have := S.bge; omega
 have h2 : mb ≠ b := by have := S.mlt; have := S.bge; omega
 refine ⟨hr, S.rep.keep (hf.block _ S.rep.lt h1), ybc S.own (hf.block _ S.own.lt h2), S.fr.trans' hf (fun i hi e => by have := S.bge; omega), S.rlt, S.mlt, S.bge, fun o ho => ?_⟩
 obtain ⟨e1, e2, e3⟩ := S.ev o ho
 exact ⟨by rw [hf.block _ (S.elt o ho) e2]; exact e1, e2, e3⟩
theorem Sg.alloc_ev (S : Sg w V rb s mb b cm E R eb eo) (o : Obj) : Sg w (V.alloc o) rb s mb b cm E R V.heap.size (some o) := by
 have hb : Below V.heap.size V (V.alloc o) := (Below.refl _ _).alloc (Nat.le_refl _) o
 refine ⟨S.rc.more hb, S.rep.keep (hb.block _ S.rep.lt), ybc S.own (hb.block _ S.own.lt), S.fr.trans (Fr.of_below hb), S.rlt, S.mlt, S.bge, fun o' ho => ?_⟩
 cases ho
 exact ⟨heap_alloc_new _ _, by have := S.rc.lt; omega, S.fr.size⟩
theorem Sg.start {w1 : World} (h : Rg w rb s cm mb E) (hb : Below w.heap.size w w1) (R : Rec) :
  Sg w (w1.alloc (.cells #[.string R.text, .int .i64 R.br, .int .i64 R.bn, .int .i64 (R.ch 0), .int .i64 (R.ch 1), .int .i64 (R.ch 2), .int .i64 (R.ch 3), .int .i64 (R.ch 4), .int .i64 (R.ch 5), .int .i64 (R.kn 0), .int .i64 (R.kn 1), .int .i64 (R.kn 2), .int .i64 (R.kn 3), .int .i64 (R.kn 4), .int .i64 (R.kn 5)] 197)) rb s mb w1.heap.size cm E R 0 none := by
 have h1 := h.below hb
 have hz := hb.size
 exact ⟨⟨heap_alloc_new _ _⟩, h1.rep.keep (Below.heap_alloc _ _ _ h1.rep.lt), ybc h1.own (Below.heap_alloc _ _ _ h1.own.lt), (Fr.of_below hb).alloc _, h.rep.lt, h.own.lt, hz, fun o ho => by cases ho⟩
theorem Sg.full (S : Sg w V rb s mb b cm E R eb eo) : Calls Tryz.prog 105 #[.pointer (some ⟨rb, 0, none⟩)] V fun e w' => e = .returned (.bool (decide (1000000000 ≤ cm s))) ∧ Sg w w' rb s mb b cm E R eb eo := by
 refine (yhb rb s cm mb V S.rep).mono ?_
 rintro e w' ⟨rfl, nq, rfl⟩
 exact ⟨rfl, S.drewN nq⟩
theorem Sg.there (S : Sg w V rb s mb b cm E R eb eo) : Calls Tryz.prog 113 #[.agg #[.string R.text, .int .i64 R.br, .int .i64 R.bn, .int .i64 (R.ch 0), .int .i64 (R.ch 1), .int .i64 (R.ch 2), .int .i64 (R.ch 3), .int .i64 (R.ch 4), .int .i64 (R.ch 5)]] V fun e w' => e = .returned (.bool (decide (0 < R.bn))) ∧ Sg w w' rb s mb b cm E R eb eo := by
 refine (yav _ _ _ _ _ _ _ _ _ V).mono ?_
 rintro e w' ⟨rfl, hb⟩
 exact ⟨rfl, S.below hb⟩
theorem Sg.files (S : Sg w V rb s mb b cm E R eb eo) (h : Rg w rb s cm mb E) : Calls Tryz.prog 129 #[.pointer (some ⟨rb, 0, none⟩)] V fun e w' => e = .returned (.int .i64 (ycl E).length) ∧ Sg w w' rb s mb b cm E R eb eo := by
 refine (yhy rb s cm mb V S.rep E h.ris (by have := h.len; omega) S.own).mono ?_
 rintro e w' ⟨rfl, hb⟩
 exact ⟨rfl, S.below hb⟩
theorem Sg.next (S : Sg w V rb s mb b cm E R eb eo) (h0 : 0 ≤ cm s) (hc : cm s < 1000000000) : Calls Tryz.prog 107 #[.pointer (some ⟨rb, 0, none⟩)] V fun e w' => e = .returned (.agg #[.int .i64 s, .int .i64 (cm s + 1)]) ∧ Sg w w' rb s mb b (yab cm (tf s (cm s + 1))) E R eb eo := by
 refine (next_any rb s cm mb V S.rep h0 hc).mono ?_
 rintro e w' ⟨rfl, hr, hf⟩
 have h1 : b ≠ rb := by have := S.rlt; have := S.bge; omega
 have h2 := (S.rep.ne S.own).symm
 refine ⟨rfl, S.rc.keep (hf.block _ S.rc.lt h1), hr, ybc S.own (hf.block _ S.own.lt h2), S.fr.trans (hf.mono (fun k _ e => .inl e)), S.rlt, S.mlt, S.bge, fun o ho => ?_⟩
 obtain ⟨e1, e2, e3⟩ := S.ev o ho
 have := S.rlt
 exact ⟨by rw [hf.block _ (S.elt o ho) (by omega)]; exact e1, e2, e3⟩
theorem Sg.clone (S : Sg w V rb s mb b cm E R eb eo) (t : ByteArray) (ht : t.size ≤ 1000000000000) : Calls Tryz.prog 109 #[.string t] V fun e w' => e = .returned (.string t) ∧ Sg w w' rb s mb b cm E R eb eo := by
 refine (ymg t V ht).mono ?_
 rintro e w' ⟨rfl, hb⟩
 exact ⟨rfl, S.below hb⟩
theorem Sg.write (S : Sg w V rb s mb b cm E R eb eo) (x : Int) (t : ByteArray) (hbn : 0 ≤ R.bn) : Calls Tryz.prog 108 #[.pointer (some ⟨b, 0, none⟩), .string t, .agg #[.int .i64 s, .int .i64 x]] V fun e w' => e = .returned (.tuple #[]) ∧ Sg w w' rb s mb b cm E (ydl s x t R) eb eo := by
 refine (write_rec b s x t R S.rep.hs V S.rc hbn).mono ?_
 rintro e w' ⟨rfl, hr, hf⟩
 exact ⟨rfl, S.onRec hf hr⟩
theorem Sg.remove (S : Sg w V rb s mb b cm E R eb eo) : Calls Tryz.prog 114 #[.pointer (some ⟨b, 0, none⟩)] V fun e w' => e = .returned (.tuple #[]) ∧ Sg w w' rb s mb b cm E ⟨⟨#[]⟩, 0, 0, fun _ => 0, R.kn⟩ eb eo := by
 refine (ypg b R V S.rc).mono ?_
 rintro e w' ⟨rfl, hr, hf⟩
 exact ⟨rfl, S.onRec hf hr⟩
theorem Sg.alone (S : Sg w V rb s mb b cm E R eb eo) (x : Int) : Calls Tryz.prog 111 #[.agg #[.int .i64 s, .int .i64 x]] V fun e w' => e = .returned (.agg #[.int .i64 (tf s x 0), .int .i64 (tf s x 1), .int .i64 (tf s x 2), .int .i64 (tf s x 3), .int .i64 (tf s x 4), .int .i64 (tf s x 5)]) ∧ Sg w w' rb s mb b cm E R eb eo := by
 refine (yhr s x V S.rep.hs).mono ?_
 rintro e w' ⟨rfl, hb⟩
 exact ⟨rfl, S.below hb⟩
theorem Sg.hear (S : Sg w V rb s mb b cm E R eb eo) (u : Nat → Int) (ty : TypeId) : Calls Tryz.prog 110 #[.pointer (some ⟨b, 9, none⟩), .slice (some ⟨V.heap.size, 0, none⟩) 1 1] (V.alloc (.cells #[.int .i64 (u 0), .int .i64 (u 1), .int .i64 (u 2), .int .i64 (u 3), .int .i64 (u 4), .int .i64 (u 5)] ty)) fun e w' => e = .returned (.tuple #[]) ∧ Sg w w' rb s mb b cm E ⟨R.text, R.br, R.bn, R.ch, yab R.kn u⟩ eb eo := by
 have S' := S.below ((Below.refl _ _).alloc (Nat.le_refl _) (.cells #[.int .i64 (u 0), .int .i64 (u 1), .int .i64 (u 2), .int .i64 (u 3), .int .i64 (u 4), .int .i64 (u 5)] ty))
 refine (hear_rec b V.heap.size 1 u R _ S'.rc (by simp) (yrx V u ty)).mono ?_
 rintro e w' ⟨rfl, hr, hf⟩
 exact ⟨rfl, S'.onRec hf hr⟩
theorem Sg.room (S : Sg w V rb s mb b cm E R eb eo) (h : Rg w rb s cm mb E) (rm : Bool) (hrm : (!decide (0 < R.bn) && decide ((20 : Int) ≤ ((ycl E).length : Int))) = rm) : Calls Tryz.prog 106 #[.pointer (some ⟨rb, 0, none⟩), .agg #[.string R.text, .int .i64 R.br, .int .i64 R.bn, .int .i64 (R.ch 0), .int .i64 (R.ch 1), .int .i64 (R.ch 2), .int .i64 (R.ch 3), .int .i64 (R.ch 4), .int .i64 (R.ch 5), .int .i64 (R.kn 0), .int .i64 (R.kn 1), .int .i64 (R.kn 2), .int .i64 (R.kn 3), .int .i64 (R.kn 4), .int .i64 (R.kn 5)]] V fun e w' => e = .returned (.bool rm) ∧ Sg w w' rb s mb b cm E R eb eo := by
 have S1 := yac (S.below ((Below.refl _ _).alloc (Nat.le_refl _) (.cells #[.string R.text, .int .i64 R.br, .int .i64 R.bn, .int .i64 (R.ch 0), .int .i64 (R.ch 1), .int .i64 (R.ch 2), .int .i64 (R.ch 3), .int .i64 (R.ch 4), .int .i64 (R.ch 5), .int .i64 (R.kn 0), .int .i64 (R.kn 1), .int .i64 (R.kn 2), .int .i64 (R.kn 3), .int .i64 (R.kn 4), .int .i64 (R.kn 5)] 197)))
 have H := yac h
 obtain ⟨k0, k1, k2, k3, k4, k5, k6, k7, k8, _⟩ := (⟨heap_alloc_new V _⟩ : yap (V.alloc (.cells #[.string R.text, .int .i64 R.br, .int .i64 R.bn, .int .i64 (R.ch 0), .int .i64 (R.ch 1), .int .i64 (R.ch 2), .int .i64 (R.ch 3), .int .i64 (R.ch 4), .int .i64 (R.ch 5), .int .i64 (R.kn 0), .int .i64 (R.kn 1), .int .i64 (R.kn 2), .int .i64 (R.kn 3), .int .i64 (R.kn 4), .int .i64 (R.kn 5)] 197)) V.heap.size R).cells
 clear S h
 cases hd : decide (0 < R.bn)
 all_goals
  rw [hd] at hrm
  have HR := yac hrm
  clear hrm
  go_enter Tryz.func106, Tryz.ntmps106
  go_wp2_with (first
   |(go_at_call 113; refine S1.out.there.mono ?_; rintro e w3 ⟨rfl, S3r⟩; have S3 := yac S3r; clear S3r)
   |(go_at_call 129; refine (S3.out.files H.out).mono ?_; rintro e w4 ⟨rfl, S4r⟩; have S4 := yac S4r; clear S4r))
  go_ret
  refine ⟨?_, by first | exact S4.out | exact S3.out⟩
  rw [← HR.out]
  rfl
theorem Sg.keepAll (S : Sg w V rb s mb b cm E R eb eo) {cm0 : Nat → Int} (h : Rg w rb s cm0 mb E) (hc : 0 ≤ cm s) (p : ByteArray) (hp : p.size ≤ 1000000000000) (h0 : 0 ≤ R.bn) (hbr : yfv R) (hl : E.length < 999999) :
  Calls Tryz.prog 112 #[.pointer (some ⟨rb, 0, none⟩), .string p, .agg #[.string R.text, .int .i64 R.br, .int .i64 R.bn, .int .i64 (R.ch 0), .int .i64 (R.ch 1), .int .i64 (R.ch 2), .int .i64 (R.ch 3), .int .i64 (R.ch 4), .int .i64 (R.ch 5), .int .i64 (R.kn 0), .int .i64 (R.kn 1), .int .i64 (R.kn 2), .int .i64 (R.kn 3), .int .i64 (R.kn 4), .int .i64 (R.kn 5)]] V fun e w' => e = .returned (.tuple #[]) ∧ Rg w' rb s cm mb (ybn cm p R E) ∧ Fr (fun k => k = rb ∨ k = mb) w w' := by
 refine (yjn rb s cm mb E V S.rep S.own h.ris (by have := h.len; unfold maxLen; omega) p hp R h0).mono ?_
 rintro e w' ⟨rfl, hr, ho, hf⟩
 refine ⟨rfl, ⟨hr, ho, ybu cm p R E h.ris, fun x hx => ?_, ?_, hc⟩, S.fr.trans (hf.mono (fun k _ e => .inr e))⟩
 ·rcases yfy hx with rfl | hx
  ·exact ⟨h0, hbr⟩
  ·exact h.bn x hx
 ·have := yhg cm p R E
  omega
end
end Go.Proofs.YtaelaldmibgibaaGreatDoor

namespace Go.Proofs.YtaelaldmibgibaaGreatDoor
open Go.RowKit Go.Maps
theorem rread_some (rb s : Nat) (cm : Nat → Int) (mb : Nat) (E : yat) (w : World) (h : Rg w rb s cm mb E) (p : ByteArray) (hp : p.size ≤ maxLen) (hg : 0 < (yay s cm (yas p E)).bn) :
  Calls Tryz.prog 63 #[.pointer (some ⟨rb, 0, none⟩), .string p] w fun e w' => e = .returned (.tuple #[.string (yay s cm (yas p E)).text, .int .i64 0]) ∧ Below w.heap.size w w' := by
 have C := yai rb s cm mb E w h.rep h.own p hp
 generalize yay s cm (yas p E) = R at *
 have hd0 : decide (0 < R.bn) = true := by simp [hg]
 simp only [yae] at C
 have CH := yac C
 clear C hg h
 go_enter Tryz.func63, Tryz.ntmps63
 go_wp2_with (first
  |(go_at_call 104; refine CH.out.mono ?_; rintro e w1 ⟨rfl, hb1r⟩; have hb1 := yac hb1r; clear hb1r)
  |(go_at_call 113; refine (yav _ _ _ _ _ _ _ _ _ _).mono ?_; rintro e w2 ⟨rfl, hb2r⟩; have t0 : w2.cell? ⟨w1.heap.size, 0, none⟩ = some (.string R.text) := (hb2r.cell (p := ⟨w1.heap.size, 0, none⟩) (by simp)).trans (by simp [go_sem]); have hb2 := yac (yos hb1.out hb2r); clear hb2r))
 go_ret2
 exact ⟨rfl, hb2.out⟩
theorem rread_none (rb s : Nat) (cm : Nat → Int) (mb : Nat) (E : yat) (w : World) (h : Rg w rb s cm mb E) (p : ByteArray) (hp : p.size ≤ maxLen) (hg : ¬ 0 < (yay s cm (yas p E)).bn) :
  Calls Tryz.prog 63 #[.pointer (some ⟨rb, 0, none⟩), .string p] w fun e w' => e = .returned (.tuple #[.string ⟨#[]⟩, .int .i64 4]) ∧ Below w.heap.size w w' := by
 have C := yai rb s cm mb E w h.rep h.own p hp
 generalize yay s cm (yas p E) = R at *
 have hd0 : decide (0 < R.bn) = false := by simp [hg]
 simp only [yae] at C
 have CH := yac C
 clear C hg h
 go_enter Tryz.func63, Tryz.ntmps63
 go_wp2_with (first
  |(go_at_call 104; refine CH.out.mono ?_; rintro e w1 ⟨rfl, hb1r⟩; have hb1 := yac hb1r; clear hb1r)
  |(go_at_call 113; refine (yav _ _ _ _ _ _ _ _ _ _).mono ?_; rintro e w2 ⟨rfl, hb2r⟩; have hb2 := yac (yos hb1.out hb2r); clear hb2r))
 go_ret2
 exact ⟨rfl, hb2.out⟩
theorem tf_self (s : Nat) (c : Int) (hs : s < 6) : tf s c s = c := by
 unfold tf one
 match s, hs with
 |0, _ | 1, _ | 2, _ | 3, _ | 4, _ | 5, _ => rfl
def nxG (s : Nat) (cm : Nat → Int) : Nat → Int := yab cm (tf s (cm s + 1))
def noRoom (R : Rec) (E : yat) : Bool := !decide (0 < R.bn) && decide ((20 : Int) ≤ ((ycl E).length : Int))
def ygv (s : Nat) (x : Int) (t : ByteArray) (R : Rec) : Rec := ⟨t, (ydl s x t R).br, (ydl s x t R).bn, (ydl s x t R).ch, yab R.kn (tf s x)⟩
theorem ydj (s : Nat) (hs : s < 6) (cm : Nat → Int) (h0 : 0 ≤ cm s) : nxG s cm s = cm s + 1 := by
 unfold nxG yab g1 zer
 rw [tf_self s _ hs]
 (repeat' split) <;> omega
theorem ywi (rb s : Nat) (cm : Nat → Int) (mb : Nat) (E : yat) (w : World) (h : Rg w rb s cm mb E) (p t : ByteArray) (hp : p.size ≤ 1000000000000) (hf : 1000000000 ≤ cm s ∨ noRoom (yay s cm (yas p E)) E = true) :
  Calls Tryz.prog 62 #[.pointer (some ⟨rb, 0, none⟩), .string p, .string t] w fun e w' => e = .returned (.int .i64 5) ∧ Rg w' rb s cm mb E ∧ Fr (fun k => k = rb ∨ k = mb) w w' := by
 have C := yai rb s cm mb E w h.rep h.own p (by unfold maxLen; omega)
 have fin : Hid (∀ V b R eb eo, Sg w V rb s mb b cm E R eb eo → Rg V rb s cm mb E ∧ Fr (fun k => k = rb ∨ k = mb) w V) := fun V b R eb eo S => ⟨⟨S.rep, S.own, h.ris, h.bn, h.len, h.c0⟩, S.fr⟩
 have H := yac h
 generalize yay s cm (yas p E) = R1 at C hf
 simp only [yae] at C
 have CH := yac C
 by_cases hc : 1000000000 ≤ cm s
 ·have hd : decide (1000000000 ≤ cm s) = true := by simp [hc]
  clear C h hf
  go_enter Tryz.func62, Tryz.ntmps62
  go_wp2_with (first
   |(go_at_call 104; refine CH.out.mono ?_; rintro e w1 ⟨rfl, hb1r⟩; have S1 := yac (Sg.start H.out hb1r R1); clear hb1r)
   |(go_at_call 105; refine S1.out.full.mono ?_; rintro e w2 ⟨rfl, S2r⟩; have S2 := yac S2r; clear S2r))
  go_ret
  exact ⟨rfl, fin.out _ _ _ _ _ S2.out⟩
 ·have hrm := hf.resolve_left hc
  unfold noRoom at hrm
  have hd : decide (1000000000 ≤ cm s) = false := by simp; omega
  have HRM := yac hrm
  clear C h hf hc hrm
  go_enter Tryz.func62, Tryz.ntmps62
  go_wp2_with (first
   |(go_at_call 104; refine CH.out.mono ?_; rintro e w1 ⟨rfl, hb1r⟩; have S1 := yac (Sg.start H.out hb1r R1); clear hb1r)
   |(go_at_call 105; refine S1.out.full.mono ?_; rintro e w2 ⟨rfl, S2r⟩; have S2 := yac S2r; obtain ⟨k0, k1, k2, k3, k4, k5, k6, k7, k8, k9, k10, k11, k12, k13, k14⟩ := S2r.rc.cells; clear S2r)
   |(go_at_call 106; refine (S2.out.room H.out true HRM.out).mono ?_; rintro e w4 ⟨rfl, S4r⟩; have S4 := yac S4r; clear S4r))
  go_ret
  exact ⟨rfl, fin.out _ _ _ _ _ S4.out⟩
theorem Sg.evCells {w V : World} {rb s mb b : Nat} {cm : Nat → Int} {E : yat} {R : Rec} {eb : Nat} {x : Int} (S : Sg w V rb s mb b cm E R eb (some (.cells #[.int .i64 s, .int .i64 x] 191))) :
  V.cell? ⟨eb, 0, none⟩ = some (.int .i64 s) ∧ V.cell? ⟨eb, 1, none⟩ = some (.int .i64 x) := by
 have h := (S.ev _ rfl).1
 constructor
 ·simp only [World.cell?, h]; rfl
 ·simp only [World.cell?, h]; rfl
theorem written_ok {s : Nat} {x : Int} {t : ByteArray} {R : Rec} (hs : s < 6) (hx : 0 < x) (h0 : 0 ≤ R.bn) (hb : yfv R) : 0 ≤ (ygv s x t R).bn ∧ yfv (ygv s x t R) := by
 unfold ygv ydl yfv
 constructor
 ·show 0 ≤ (if 0 < R.bn then R.bn else x)
  split <;> omega
 ·show ∃ r : Nat, r < 6 ∧ (if 0 < R.bn then R.br else (s : Int)) = r
  split
  ·exact hb
  ·exact ⟨s, hs, rfl⟩
theorem rwrite_ok (rb s : Nat) (cm : Nat → Int) (mb : Nat) (E : yat) (w : World) (h : Rg w rb s cm mb E) (hl : E.length < 999999) (p t : ByteArray) (hp : p.size ≤ 1000000000000) (ht : t.size ≤ 1000000000000) (hc : cm s < 1000000000) (hrm : noRoom (yay s cm (yas p E)) E = false) :
  Calls Tryz.prog 62 #[.pointer (some ⟨rb, 0, none⟩), .string p, .string t] w fun e w' => e = .returned (.int .i64 0) ∧ Rg w' rb s (nxG s cm) mb (ybn (nxG s cm) p (ygv s (cm s + 1) t (yay s cm (yas p E))) E) ∧ Fr (fun k => k = rb ∨ k = mb) w w' := by
 have C := yai rb s cm mb E w h.rep h.own p (by unfold maxLen; omega)
 have H := yac h
 have hc0 := h.c0
 have hs := h.rep.hs
 have hns := ydj s hs cm hc0
 obtain ⟨hb0, hbr⟩ := ybf h p
 have hd : decide (1000000000 ≤ cm s) = false := by simp; omega
 generalize yay s cm (yas p E) = R1 at *
 simp only [yae] at C
 have CH := yac C
 have HB0 := yac hb0
 have KI : Hid (∀ V b eb eo, Sg w V rb s mb b (yab cm (tf s (cm s + 1))) E ⟨(ydl s (cm s + 1) t R1).text, (ydl s (cm s + 1) t R1).br, (ydl s (cm s + 1) t R1).bn, (ydl s (cm s + 1) t R1).ch, yab (ydl s (cm s + 1) t R1).kn (tf s (cm s + 1))⟩ eb eo → Calls Tryz.prog 112 #[.pointer (some ⟨rb, 0, none⟩), .string p, .agg #[.string (ydl s (cm s + 1) t R1).text, .int .i64 (ydl s (cm s + 1) t R1).br, .int .i64 (ydl s (cm s + 1) t R1).bn, .int .i64 ((ydl s (cm s + 1) t R1).ch 0), .int .i64 ((ydl s (cm s + 1) t R1).ch 1), .int .i64 ((ydl s (cm s + 1) t R1).ch 2), .int .i64 ((ydl s (cm s + 1) t R1).ch 3), .int .i64 ((ydl s (cm s + 1) t R1).ch 4), .int .i64 ((ydl s (cm s + 1) t R1).ch 5), .int .i64 (yab (ydl s (cm s + 1) t R1).kn (tf s (cm s + 1)) 0), .int .i64 (yab (ydl s (cm s + 1) t R1).kn (tf s (cm s + 1)) 1), .int .i64 (yab (ydl s (cm s + 1) t R1).kn (tf s (cm s + 1)) 2), .int .i64 (yab (ydl s (cm s + 1) t R1).kn (tf s (cm s + 1)) 3), .int .i64 (yab (ydl s (cm s + 1) t R1).kn (tf s (cm s + 1)) 4), .int .i64 (yab (ydl s (cm s + 1) t R1).kn (tf s (cm s + 1)) 5)]] V fun e w' => e = .returned (.tuple #[]) ∧ Rg w' rb s (nxG s cm) mb (ybn (nxG s cm) p (ygv s (cm s + 1) t R1) E) ∧ Fr (fun k => k = rb ∨ k = mb) w w') := by
  intro V b eb eo S
  have hw := written_ok (t := t) hs (by omega : 0 < cm s + 1) hb0 hbr
  exact S.keepAll H.out (by show 0 ≤ nxG s cm s; rw [hns]; omega) p hp hw.1 hw.2 hl
 clear C h hb0 hbr hns hl
 unfold noRoom at hrm
 have HRM := yac hrm
 clear hrm
 generalize ybn (nxG s cm) p (ygv s (cm s + 1) t R1) E = E' at KI ⊢
 go_enter Tryz.func62, Tryz.ntmps62
 go_wp2_with (first
  |(go_at_call 104; refine CH.out.mono ?_; rintro e w1 ⟨rfl, hb1r⟩; have S1 := yac (Sg.start H.out hb1r R1); clear hb1r)
  |(go_at_call 105; refine S1.out.full.mono ?_; rintro e w2 ⟨rfl, S2r⟩; have S2 := yac S2r; obtain ⟨k0, k1, k2, k3, k4, k5, k6, k7, k8, k9, k10, k11, k12, k13, k14⟩ := S2r.rc.cells; clear S2r)
  |(go_at_call 106; refine (S2.out.room H.out false HRM.out).mono ?_; rintro e w4 ⟨rfl, S4r⟩; have S4 := yac S4r; clear S4r)
  |(go_at_call 107; refine (S4.out.next hc0 hc).mono ?_; rintro e w5 ⟨rfl, S5r⟩; have S5 := yac S5r; clear S5r))
 clear k0 k1 k2 k3 k4 k5 k6 k7 k8 k9 k10 k11 k12 k13 k14
 have SE := yac ((S5.out.alloc_ev (.cells #[.int .i64 s, .int .i64 (cm s + 1)] 191)).drewN 1)
 have hbn1 := HB0.out
 go_region_law (first
  |(go_simp; go_at_call 109; refine (SE.out.clone t ht).mono ?_; rintro e w6 ⟨rfl, S6r⟩; have S6 := yac S6r; obtain ⟨f0, f1⟩ := S6r.evCells; clear S6r; dsimp only)
  |(go_simp; go_at_call 108; refine (S6.out.write (cm s + 1) t hbn1).mono ?_; rintro e w7 ⟨rfl, S7r⟩; have S7 := yac S7r; obtain ⟨g0, g1⟩ := S7r.evCells; clear S7r; dsimp only))
 all_goals
  clear f0 f1
  go_wp2_with (first
   |(go_at_call 111; refine (S7.out.alone (cm s + 1)).mono ?_; rintro e w8 ⟨rfl, S8r⟩; have S8 := yac S8r; clear S8r)
   |(go_at_call 110; refine (S8.out.hear (tf s (cm s + 1)) _).mono ?_; rintro e w9 ⟨rfl, S9r⟩; have S9 := yac S9r; obtain ⟨k0, k1, k2, k3, k4, k5, k6, k7, k8, k9, k10, k11, k12, k13, k14⟩ := S9r.rc.cells; dsimp only at k0 k1 k2 k3 k4 k5 k6 k7 k8 k9 k10 k11 k12 k13 k14; clear S9r)
   |(go_at_call 112; refine (KI.out _ _ _ _ S9.out).mono ?_; rintro e w10 ⟨rfl, hPr, hFr⟩; have HP := yac hPr; have HF := yac hFr; clear hPr hFr))
  go_ret
  exact ⟨rfl, HP.out, HF.out⟩
end Go.Proofs.YtaelaldmibgibaaGreatDoor
