/- The lines that a net is told in. The program's tellers: numbers, lists joined, events, times. The program's teller of times. The program's teller of events. The program's teller of a file's text. The program's teller of a file. The program's pathsOf, of one replica. -/
import Derived.Test.YtaelaldmibgibaaGreatDoorU44
import Derived.Test.YtaelaldmibgibaaGreatDoorU37
import Derived.Test.YtaelaldmibgibaaGreatDoorU02
import Derived.Deep.RegionLawGrows
import Derived.Lib.SlBytesConst
import Derived.Test.YtaelaldmibgibaaGreatDoorU40
import Derived.Test.YtaelaldmibgibaaGreatDoorU41

set_option linter.unusedVariables false
set_option linter.unusedSimpArgs false

namespace Go.Proofs.YtaelaldmibgibaaGreatDoor
open Go.RowKit Go.Lib

theorem sep_lines (c : UInt8) : ∀ l : List Bs, l ≠ [] → sepBy c l ++ [c] = (l.map (fun x => x ++ [c])).flatten
  | [], h => absurd rfl h
  | [x], _ => by simp [sepBy]
  | x :: y :: l, _ => by
    rw [sepBy_cons2, List.append_assoc, List.cons_append, sep_lines c (y :: l) (by simp)]
    simp
/-- a replica's lines -/
def recL (y : ByteArray × DS) : Bs := bs y.1 ++ 32 :: (timeT y.2.known ++ 32 :: (if y.2.there = true then decDigits y.2.by_ ++ 58 :: decDigits y.2.num ++ 32 :: (timeT y.2.chg ++ 32 :: 61 :: hexT y.2.text) else [45]))
def linesD (d : DR) : List Bs := (bs replicaW ++ timeT d.com) :: d.recs.map recL
def linesN (m : List DR) : List Bs := (bs reunionW ++ decDigits m.length) :: (m.map linesD).flatten
theorem recL_T (y : ByteArray × DS) : recL y ++ [10] = bs y.1 ++ y.2.T := by
  unfold recL DS.T DS.tail
  cases y.2.there <;> simp
theorem linesD_T (d : DR) : ((linesD d).map (fun x => x ++ [10])).flatten = d.T := by
  unfold linesD DR.T drsT
  rw [List.map_cons, List.map_map, List.flatten_cons]
  have : d.recs.map ((fun x => x ++ [10]) ∘ recL) = d.recs.map (fun r => bs r.1 ++ r.2.T) := List.map_congr_left (fun y _ => recL_T y)
  rw [this]
  simp
theorem linesN_T (m : List DR) : sepBy 10 (linesN m) ++ [10] = bodyT m := by
  rw [sep_lines 10 _ (by simp [linesN])]
  unfold linesN bodyT repsT
  rw [List.map_cons, List.flatten_cons, List.map_flatten, List.map_map]
  have : ∀ l : List DR, (l.map (List.map (fun x => x ++ [10]) ∘ linesD)).flatten.flatten = (l.map DR.T).flatten := fun l => by
    induction l with
    | nil => rfl
    | cons d l ih => simp only [List.map_cons, List.flatten_cons, List.flatten_append, Function.comp, linesD_T, ih]
  rw [this]
  simp

end Go.Proofs.YtaelaldmibgibaaGreatDoor

namespace Go.Proofs.YtaelaldmibgibaaGreatDoor
open Go.RowKit Go.Lib

theorem itoa_any (k : Nat) (hk : k ≤ 1000000000) (w : World) (hg : Glob w) :
    Calls Tryz.prog 72 #[.int .i64 k] w fun e w' => e = .returned (.string (ofBs (decDigits k))) ∧ Below w.heap.size w w' := by
  refine (Tryz.strconv_Itoa _ (by omega) (by omega) w hg.tab).mono ?_
  rintro e w' ⟨rfl, q, os, rfl⟩
  refine ⟨?_, grow_below _ q os⟩
  unfold Lib.itoa
  rw [if_neg (by omega), Int.toNat_natCast]
  rfl
theorem join_sep (c : UInt8) : ∀ ps : List Bs, Lib.join ps [c] = sepBy c ps
  | [] => rfl
  | x :: l => by
    rw [Lib.join_cons]
    rfl
theorem map_bs (l : List ByteArray) : l.map (·.data.toList) = l.map bs := rfl
/-- a row of texts, joined -/
theorem join_row (c : UInt8) (base : Nat) (v : Value) (l : List ByteArray) (w : World) (h : w.ownsRow base 9 1 v l.length (svs l)) (hl : l.length ≤ 100000000) (hs : (sepBy c (l.map bs)).length ≤ 10000000000) :
    Calls Tryz.prog 38 #[v, .string ⟨#[c]⟩] w fun e w' => e = .returned (.string (ofBs (sepBy c (l.map bs)))) ∧ Below w.heap.size w w' := by
  rcases h.2 with ⟨rfl, h0⟩ | ⟨g, cap, cur, rfl, hbase, hb, h1, h2, h3, h4⟩
  · have : l = [] := List.length_eq_zero_iff.1 h0
    subst this
    refine (Tryz.strings_Join_none none 0 ⟨#[c]⟩ w).mono ?_
    rintro e w' ⟨rfl, rfl⟩
    exact ⟨rfl, Below.refl _ _⟩
  · have hc : ∀ (j : Nat) x, l[j]? = some x → w.cell? ⟨g, 0 + j, none⟩ = some (.string x) := fun j x hx => by
      rw [Nat.zero_add]
      have hj := (List.getElem?_eq_some_iff.1 hx).1
      rw [World.ownsRow.cellAt h j (by omega)]
      unfold svs
      rw [List.getElem?_map, hx]
      rfl
    have e : Lib.join (l.map (·.data.toList)) (⟨#[c]⟩ : ByteArray).data.toList = sepBy c (l.map bs) := join_sep c _
    refine (Tryz.strings_Join g 0 cap l ⟨#[c]⟩ w hc (Array.getElem?_eq_some_iff.1 hb).1 (by omega) h1 (by rw [e]; omega)).mono ?_
    rintro e' w' ⟨rfl, hb'⟩
    rw [e]
    exact ⟨rfl, hb'⟩

end Go.Proofs.YtaelaldmibgibaaGreatDoor

namespace Go.Proofs.YtaelaldmibgibaaGreatDoor
open Go.RowKit Go.Lib

/-- while a time is told: the time's copy, the row of numbers -/
structure TT (w wr : World) (t : Nat → Int) (v : Value) (l : List ByteArray) : Prop where
  bel : Below w.heap.size w wr
  tc : ∀ j, j < 6 → wr.cell? ⟨w.heap.size, j, none⟩ = some (.int .i64 (t j))
  own : wr.ownsRow (w.heap.size + 1) 9 1 v l.length (svs l)
  lt : w.heap.size < wr.heap.size
theorem TT.step {w wr w2 w3 : World} {t : Nat → Int} {v : Value} {l : List ByteArray} (h : TT w wr t v l) (hb : Below wr.heap.size wr w2) (o : Obj) (y : ByteArray) {g cap : Nat}
    (ho : w3.ownsRow (w.heap.size + 1) 9 1 (.slice (some ⟨g, 0, none⟩) (l.length + 1) cap) (l.length + 1) (svs l ++ [.string y])) (hg : (w2.alloc o).grownBy w3 v.ownBlock) : TT w w3 t (.slice (some ⟨g, 0, none⟩) (l.length + 1) cap) (l ++ [y]) := by
  have hz := hb.size
  have hlt := h.lt
  have hne : ∀ k, v.ownBlock = some k → w.heap.size + 1 ≤ k := fun k hk => (World.ownsRow.lt h.own k hk).1
  refine ⟨?_, fun j hj => ?_, ?_, ?_⟩
  · exact grown_below ((h.bel.trans (hb.mono h.bel.size)).alloc (by omega) _) hg (fun k hk => by have := hne k hk; omega)
  · have hbk := hg.block w.heap.size (by simp; omega) (fun e => by have := hne _ e.symm; omega)
    rw [World.cell?_of_block (w := w2.alloc o) hbk, World.cell?_alloc_old _ _ _ (by simp only; omega), hb.cell (by simp only; omega)]
    exact h.tc j hj
  · rw [List.length_append, svs_append]
    exact ho
  · have := hg.size
    simp at this
    omega

set_option maxRecDepth 100000 in
set_option maxHeartbeats 1000000 in
theorem TimeTold_any (c : List Nat) (n : Nat) (hn : c.length = n) (h1 : 1 ≤ n) (h6 : n ≤ 6) (hc : ∀ v ∈ c, v ≤ 1000000000) (w : World) (hg : Glob w) :
    Calls Tryz.prog 121 #[.agg #[.int .i64 (lfn c 0), .int .i64 (lfn c 1), .int .i64 (lfn c 2), .int .i64 (lfn c 3), .int .i64 (lfn c 4), .int .i64 (lfn c 5)], .int .i64 n] w fun e w' => e = .returned (.string (ofBs (timeT c))) ∧ Below w.heap.size w w' := by
  have T0 : Hid (TT w (w.alloc (.cells #[.int .i64 (lfn c 0), .int .i64 (lfn c 1), .int .i64 (lfn c 2), .int .i64 (lfn c 3), .int .i64 (lfn c 4), .int .i64 (lfn c 5)] 186)) (lfn c) (.slice none 0 0) []) := ⟨(Below.refl _ _).alloc (Nat.le_refl _) _, fun j hj => built6 w (lfn c) _ j hj, World.ownsRow_nil _ _ _ _, by simp⟩
  have GL : Hid (∀ wr, Below w.heap.size w wr → Glob wr) := fun wr hb => hg.below hb
  have IT : Hid (∀ i, i < n → ∀ wr, Glob wr → Calls Tryz.prog 72 #[.int .i64 (lfn c i)] wr fun e w' => e = .returned (.string (ofBs (decDigits (c.getD i 0)))) ∧ Below wr.heap.size wr w') := fun i hi wr hw => by
    refine itoa_any (c.getD i 0) ?_ wr hw
    rw [List.getD_eq_getElem?_getD, List.getElem?_eq_getElem (by omega)]
    exact hc _ (List.getElem_mem _)
  have TK : Hid (∀ i, i < n → (c.take i).map (fun k => ofBs (decDigits k)) ++ [ofBs (decDigits (c.getD i 0))] = (c.take (i + 1)).map (fun k => ofBs (decDigits k))) := fun i hi => map_take_succ (fun k => ofBs (decDigits k)) c i 0 (by omega)
  have LN : Hid (∀ i, i ≤ n → ((c.take i).map (fun k => ofBs (decDigits k))).length = i) := fun i hi => by rw [List.length_map, List.length_take]; omega
  have JN : Hid (∀ (W : World) (v : Value), TT w W (lfn c) v ((c.take n).map (fun k => ofBs (decDigits k))) → Calls Tryz.prog 38 #[v, .string ⟨#[44]⟩] W fun e w' => e = .returned (.string (ofBs (timeT c))) ∧ Below W.heap.size W w') := fun W v hT => by
    have e : sepBy 44 (((c.take n).map (fun k => ofBs (decDigits k))).map bs) = timeT c := by
      unfold timeT
      rw [← hn, List.take_length, List.map_map]
      congr 1
    have hl : (timeT c).length ≤ 10000000000 := by
      have : ∀ l : List Nat, (∀ v ∈ l, v ≤ 1000000000) → (timeT l).length ≤ 12 * l.length := fun l => by
        induction l with
        | nil => intro _; simp [timeT, sepBy]
        | cons a l ih =>
          intro hl
          have h1 := ih (fun v hv => hl v (List.mem_cons_of_mem _ hv))
          have h2 := dig_len 10 a (Nat.lt_of_le_of_lt (hl a (by simp)) (by decide))
          cases l with
          | nil => simp [timeT, sepBy]; omega
          | cons b l =>
            unfold timeT at h1 ⊢
            rw [List.map_cons, List.map_cons, sepBy_cons2]
            rw [List.map_cons] at h1
            simp at h1 ⊢
            omega
      have := this c hc
      omega
    have := join_row 44 (w.heap.size + 1) v _ W hT.own (by rw [LN.out n (Nat.le_refl _)]; omega) (by rw [e]; exact hl)
    rw [e] at this
    exact this
  clear hg
  generalize ht : timeT c = tt at *
  clear ht
  have hn6 : (n : Int) ≤ 6 := by omega
  have hn0 : (0 : Int) ≤ (n : Int) := by omega
  go_enter Tryz.func121, Tryz.ntmps121
  go_wp2
  go_loopw [5, 11] (fun v iv wr => ∃ i : Nat, i ≤ n ∧ iv = .int .i64 i ∧ Hid (TT w wr (lfn c) v ((c.take i).map (fun k => ofBs (decDigits k))))) (fun _ iv _ => n - (intOf iv).toNat)
  case atStart => exact ⟨0, Nat.zero_le _, rfl, T0⟩
  case round =>
    clear T0
    obtain ⟨i, hi, rfl, hT⟩ := hrel
    by_cases hlt : i < n
    · have ti := hT.out.tc i (by omega)
      have hll := LN.out i hi
      obtain ⟨dd, hdd⟩ : ∃ dd, dd = ofBs (decDigits (c.getD i 0)) := ⟨_, rfl⟩
      have IT' : Hid (∀ wr, Glob wr → Calls Tryz.prog 72 #[.int .i64 (lfn c i)] wr fun e w' => e = .returned (.string dd) ∧ Below wr.heap.size wr w') := by rw [hdd]; exact IT.out i hlt
      have TK' := TK.out i hlt
      rw [← hdd] at TK'
      have TK2 := hide TK'
      clear TK' hdd
      go_wp2_with (first
        | (go_at_call 72; refine (IT'.out _ (GL.out _ hT.out.bel)).mono ?_; rintro e w2 ⟨rfl, hb2⟩; have HB2 := hide hb2; clear hb2; have hrow2 := hide (ownsRow_keep (w' := w2) hT.out.own (fun k e => HB2.out.block k (World.ownsRow.lt hT.out.own k e).2)))
        | (at_builtin; refine app_str _ rfl (.tmp 15) (.tmp 18) rfl (w.heap.size + 1) _ _ _ rfl (hrow2.out.alloc _) w2.heap.size dd rfl (by simp) (by omega) (by have := HB2.out.size; have := hT.out.lt; simp; omega) ?_; intro g2 c2 w3 ho3 hgr3 hat3 hl3))
      have T3 := hide (hT.out.step HB2.out _ _ ho3 hgr3)
      clear ho3 hgr3 hat3 hl3
      rw [TK2.out, hll] at T3
      go_roundw
      case rel => exact ⟨i + 1, by omega, by go_num, T3⟩
      case measure => simp [intOf]; omega
    · have ei : i = n := by omega
      subst ei
      go_wp2_with (go_at_call 38; refine (JN.out _ _ hT.out).mono ?_; rintro e w2 ⟨rfl, hb2⟩)
      go_ret
      exact ⟨rfl, hT.out.bel.trans (hb2.mono hT.out.bel.size)⟩

end Go.Proofs.YtaelaldmibgibaaGreatDoor

namespace Go.Proofs.YtaelaldmibgibaaGreatDoor
open Go.RowKit Go.Lib

/-- an event's copy in a new block -/
structure EvC (w V : World) (x y : Int) : Prop where
  c0 : V.cell? ⟨w.heap.size, 0, none⟩ = some (.int .i64 x)
  c1 : V.cell? ⟨w.heap.size, 1, none⟩ = some (.int .i64 y)
  bel : Below w.heap.size w V
  lt : w.heap.size < V.heap.size
theorem EvC.more {w V V' : World} {x y : Int} (h : EvC w V x y) (hb : Below V.heap.size V V') : EvC w V' x y :=
  ⟨(hb.cell (p := ⟨w.heap.size, 0, none⟩) h.lt).trans h.c0, (hb.cell (p := ⟨w.heap.size, 1, none⟩) h.lt).trans h.c1, h.bel.trans (hb.mono h.bel.size), Nat.lt_of_lt_of_le h.lt hb.size⟩

set_option maxHeartbeats 1000000 in
theorem EventTold_any (r k : Nat) (hr : r ≤ 1000000000) (hk : k ≤ 1000000000) (w : World) (hg : Glob w) :
    Calls Tryz.prog 178 #[.agg #[.int .i64 r, .int .i64 k]] w fun e w' => e = .returned (.string (ofBs (decDigits r ++ 58 :: decDigits k))) ∧ Below w.heap.size w w' := by
  have E0 : Hid (EvC w ((w.alloc (.cells #[.int .i64 r, .int .i64 k] 191)).drew) r k) := ⟨(by simp only [World.cell?]; rw [show ((w.alloc (.cells #[.int .i64 r, .int .i64 k] 191)).drew).heap = (w.alloc (.cells #[.int .i64 r, .int .i64 k] 191)).heap from rfl, heap_alloc_new]; rfl), (by simp only [World.cell?]; rw [show ((w.alloc (.cells #[.int .i64 r, .int .i64 k] 191)).drew).heap = (w.alloc (.cells #[.int .i64 r, .int .i64 k] 191)).heap from rfl, heap_alloc_new]; rfl), ((Below.refl _ _).alloc (Nat.le_refl _) _).drew, by simp⟩
  have I1 : Hid (∀ W, EvC w W r k → Calls Tryz.prog 72 #[.int .i64 r] W fun e w' => e = .returned (.string (ofBs (decDigits r))) ∧ EvC w w' r k) := fun W hW => (itoa_any r hr W (hg.below hW.bel)).mono fun e w' h => ⟨h.1, hW.more h.2⟩
  have I2 : Hid (∀ W, EvC w W r k → Calls Tryz.prog 72 #[.int .i64 k] W fun e w' => e = .returned (.string (ofBs (decDigits k))) ∧ EvC w w' r k) := fun W hW => (itoa_any k hk W (hg.below hW.bel)).mono fun e w' h => ⟨h.1, hW.more h.2⟩
  have HL : Hid (ofBs (decDigits r ++ 58 :: decDigits k) = ofBs (decDigits r) ++ (⟨#[58]⟩ : ByteArray) ++ ofBs (decDigits k)) := by
    unfold Hid
    apply bs_inj
    rw [bs_ofBs, bs_append, bs_append, bs_ofBs, bs_ofBs, List.append_assoc]
    rfl
  rw [HL.out]
  have s1 : (ofBs (decDigits r)).size ≤ 1000 := by rw [ofBs_size]; have := dig_len 10 r (Nat.lt_of_le_of_lt hr (by decide)); omega
  have s2 : (ofBs (decDigits k)).size ≤ 1000 := by rw [ofBs_size]; have := dig_len 10 k (Nat.lt_of_le_of_lt hk (by decide)); omega
  generalize ofBs (decDigits r) = dr at *
  generalize ofBs (decDigits k) = dk at *
  generalize (r : Int) = ri at *
  generalize (k : Int) = ki at *
  have n1 : ¬ 9223372036854775807 < dr.size + 1 := by omega
  have n2 : ¬ 9223372036854775807 < dr.size + 1 + dk.size := by omega
  have n3 : ¬ 9223372036854775807 < (dr ++ (⟨#[58]⟩ : ByteArray)).size + dk.size := by
    rw [ByteArray.size_append]
    show ¬ 9223372036854775807 < dr.size + 1 + dk.size
    omega
  clear hg HL
  go_enter Tryz.func178, Tryz.ntmps178
  go_wp2_with fail
  go_region_law (first
    | (go_simp; go_at_call_of 72 (Value.int .i64 ri); refine (I1.out _ (by first | exact E2.out | exact E0.out)).mono ?_; rintro e w1 ⟨rfl, hE⟩; have E2 := hide hE; have a0 := hE.c0; have a1 := hE.c1; clear hE; dsimp only)
    | (go_simp; go_at_call_of 72 (Value.int .i64 ki); refine (I2.out _ (by first | exact E2.out | exact E0.out)).mono ?_; rintro e w1 ⟨rfl, hE⟩; have E2 := hide hE; have a0 := hE.c0; have a1 := hE.c1; clear hE; dsimp only))
  all_goals
    go_wp2
    go_ret
    exact ⟨rfl, E2.out.bel⟩

end Go.Proofs.YtaelaldmibgibaaGreatDoor

namespace Go.Proofs.YtaelaldmibgibaaGreatDoor
open Go.RowKit Go.Lib

theorem step_app_u82 {ops : Array Oper} {o : Oper} {a : Act} {K : Act → World → Prop} {Q : Exit → Act → World → Prop} {E : Prop} (w : World) (hgd : o.guard = none) (s x : Operand) (ho : o.op = .call { callee := .builtin .append, args := #[s, x], argTypes := #[53, 53] }) (base : Nat) (v : Value) (n : Nat) (xs : List Value) (hs : a.eval s = v) (hown : w.ownsRow base 5 1 v n xs)
    (k : Nat) (y0 y1 : Int) (hx : a.eval x = .slice (some ⟨k, 0, none⟩) 2 2) (hc0 : w.cell? ⟨k, 0, none⟩ = some (.int .u8 y0)) (hc1 : w.cell? ⟨k, 1, none⟩ = some (.int .u8 y1)) (hn : n ≤ 1000000000000) (hb : base ≤ w.heap.size)
    (h : ∀ g cap w1, w1.ownsRow base 5 1 (.slice (some ⟨g, 0, none⟩) (n + 2) cap) (n + 2) (xs ++ [.int .u8 y0, .int .u8 y1]) → w.grownBy w1 v.ownBlock → (v.ownBlock = some g ∨ g = w.heap.size) → g < w1.heap.size → K (a.put o.dst (.slice (some ⟨g, 0, none⟩) (n + 2) cap)) w1) :
    if Region.wanted o (yielded ops a.tmps) = true then Oper.wp Tryz.prog o a w K Q else E := by
  obtain ⟨i0, hi, hz0, hz1, hz2⟩ := info_parts info_u8
  refine step_append_lies w hgd s x 53 ho base 5 i0 _ 1 1 Tryz.underlying53 hi hz0 hz1 hz2 rfl (by decide) v n xs hs hown ⟨k, 0, none⟩ 2 2 [.int .u8 y0, .int .u8 y1] hx rfl ?_ ?_ (by omega) (by unfold maxLen; omega) (by omega) hb _ rfl h
  · intro j u hj
    match j, hj with
    | 0, hj => simp at hj; subst hj; simpa [Addr.add] using hc0
    | 1, hj => simp at hj; subst hj; simpa [Addr.add] using hc1
  · intro u hu; simp at hu; rcases hu with rfl | rfl <;> rfl

/-- kept from the walk's own way: a digit -/
def dgM (i : Value) : Sem Value := Instr.index 9 (.string ⟨#[48, 49, 50, 51, 52, 53, 54, 55, 56, 57, 97, 98, 99, 100, 101, 102]⟩) i
theorem dgEq (i : Value) : Instr.index 9 (.string ⟨#[48, 49, 50, 51, 52, 53, 54, 55, 56, 57, 97, 98, 99, 100, 101, 102]⟩) i = dgM i := rfl
set_option maxRecDepth 100000 in
theorem run_dg (k : Nat) (hk : k < 16) (w : World) : (dgM (.int .u8 (k : Int))).run Tryz.prog w = .ok (.int .u8 ((hexd k).toNat : Int)) w := by
  have h : ∀ k : Fin 16, (dgM (.int .u8 (k.val : Int))).run Tryz.prog w = .ok (.int .u8 ((hexd k.val).toNat : Int)) w := by
    intro k
    have hk := k.isLt
    have : k.val = 0 ∨ k.val = 1 ∨ k.val = 2 ∨ k.val = 3 ∨ k.val = 4 ∨ k.val = 5 ∨ k.val = 6 ∨ k.val = 7 ∨ k.val = 8 ∨ k.val = 9 ∨ k.val = 10 ∨ k.val = 11 ∨ k.val = 12 ∨ k.val = 13 ∨ k.val = 14 ∨ k.val = 15 := by omega
    rcases this with e | e | e | e | e | e | e | e | e | e | e | e | e | e | e | e <;> (rw [e]; exact rfl)
  exact h ⟨k, hk⟩
theorem hexT_snoc (t : Bs) (c : UInt8) : hexT (t ++ [c]) = hexT t ++ [hexd (c.toNat / 16), hexd (c.toNat % 16)] := by
  unfold hexT
  rw [List.map_append, List.flatten_append]
  rfl

theorem RH.conv {w wr : World} {tg tcp : Nat} {u : Bs} (h : RH w wr (.slice (some ⟨tg, 0, none⟩) u.length tcp) u) : (convert 53 9 (.slice (some ⟨tg, 0, none⟩) u.length tcp)).run Tryz.prog wr = .ok (.string (ofBs u)) wr := by
  have own := h.own
  rcases own.2 with ⟨e, _⟩ | ⟨g, cap, cur, e, _, hgc, _, _, _, htk⟩
  · cases e
  · simp only [Value.slice.injEq, Option.some.injEq, Addr.mk.injEq, and_true, true_and] at e
    obtain ⟨rfl, rfl⟩ := e
    refine run_convert_bytes_back (P := Tryz.prog) _ 53 9 5 ⟨tg, 0, none⟩ tcp u Tryz.underlying53 Tryz.underlying5 Tryz.underlying9 (fun j hj => ?_)
    have h1 : (bvs u)[j]? = some (.int .u8 (u[j].toNat : Int)) := by simp [bvs, hj]
    have e : (⟨tg, 0, none⟩ : Addr).add j = ⟨tg, j, none⟩ := by unfold Addr.add; split <;> simp_all
    rw [e]
    rw [← htk, List.getElem?_take] at h1
    split at h1
    · simp only [World.cell?, hgc]
      simpa using h1
    · cases h1

attribute [local go_sem ↓] dgEq
attribute [local go_sem] run_dg
/-- while a text is told: ahead of the first byte the sign alone, in a marked block -/
structure HX (w wr : World) (v : Value) (i : Nat) (u : Bs) : Prop where
  bel : Below w.heap.size w wr
  val : ∃ g c, v = .slice (some ⟨g, 0, none⟩) u.length c ∧ (∀ (j : Nat) (hj : j < u.length), wr.cell? ⟨g, j, none⟩ = some (.int .u8 (u[j].toNat : Int))) ∧ w.heap.size ≤ g ∧ g < wr.heap.size
  own : (i = 0 ∧ v = .slice (some ⟨w.heap.size, 0, none⟩) 1 1 ∧ u = [61] ∧ wr.cell? ⟨w.heap.size, 0, none⟩ = some (.int .u8 61)) ∨ wr.ownsRow w.heap.size 5 1 v u.length (bvs u)
theorem HX.grown {w wr w3 : World} {v v' : Value} {i : Nat} {u : Bs} (h : HX w wr v i u) (x y : UInt8) {o : Obj} (ho : w3.ownsRow w.heap.size 5 1 v' (u.length + 2) (bvs u ++ [.int .u8 (x.toNat : Int), .int .u8 (y.toNat : Int)])) (hb : Below w.heap.size w w3) : HX w w3 v' (i + 1) (u ++ [x, y]) := by
  have e : bvs (u ++ [x, y]) = bvs u ++ [.int .u8 (x.toNat : Int), .int .u8 (y.toNat : Int)] := by simp [bvs]
  have hl : (u ++ [x, y]).length = u.length + 2 := by simp
  rw [← e, ← hl] at ho
  refine ⟨hb, ?_, .inr ho⟩
  rcases ho.2 with ⟨_, h0⟩ | ⟨g, cap, cur, rfl, hbase, hg, _⟩
  · simp at h0
  · refine ⟨g, cap, rfl, fun j hj => ?_, hbase, (Array.getElem?_eq_some_iff.1 hg).1⟩
    rw [World.ownsRow.cellAt ho j (by omega)]
    unfold bvs
    rw [List.getElem?_map, List.getElem?_eq_getElem hj]
    rfl
theorem HX.conv {w wr : World} {g c i : Nat} {u : Bs} (h : HX w wr (.slice (some ⟨g, 0, none⟩) u.length c) i u) : (convert 53 9 (.slice (some ⟨g, 0, none⟩) u.length c)).run Tryz.prog wr = .ok (.string (ofBs u)) wr := by
  obtain ⟨g', c', e, hc, _⟩ := h.val
  simp only [Value.slice.injEq, Option.some.injEq, Addr.mk.injEq, and_true, true_and] at e
  obtain ⟨rfl, rfl⟩ := e
  refine run_convert_bytes_back (P := Tryz.prog) _ 53 9 5 ⟨g, 0, none⟩ c u Tryz.underlying53 Tryz.underlying5 Tryz.underlying9 (fun j hj => ?_)
  have e : (⟨g, 0, none⟩ : Addr).add j = ⟨g, j, none⟩ := by unfold Addr.add; split <;> simp_all
  rw [e]
  exact hc j hj

set_option maxRecDepth 100000 in
set_option maxHeartbeats 1000000 in
theorem Hex_any (t : ByteArray) (ht : t.size ≤ 60) (w : World) :
    Calls Tryz.prog 179 #[.string t] w fun e w' => e = .returned (.string (ofBs (61 :: hexT (bs t)))) ∧ Below w.heap.size w w' := by
  have kc := fun (w : World) (C : Array Value) (n c : Nat) => Lib.run_convert_bytes_const (P := Tryz.prog) w 53 5 C n c Tryz.underlying53 Tryz.underlying5
  have H0 : Hid (HX w (w.alloc (.cells #[.int .u8 61] 5 (1, 2))) (.slice (some ⟨w.heap.size, 0, none⟩) 1 1) 0 (61 :: hexT ((bs t).take 0))) := by
    have hc : (w.alloc (.cells #[.int .u8 61] 5 (1, 2))).cell? ⟨w.heap.size, 0, none⟩ = some (.int .u8 61) := by
      simp only [World.cell?, heap_alloc_new]
      rfl
    refine ⟨(Below.refl _ _).alloc (Nat.le_refl _) _, ⟨w.heap.size, 1, rfl, fun j hj => ?_, Nat.le_refl _, by simp⟩, .inl ⟨rfl, rfl, rfl, hc⟩⟩
    match j, hj with
    | 0, _ => exact hc
  go_enter Tryz.func179, Tryz.ntmps179
  go_wp2
  clear kc
  go_loopw [3, 9] (fun v iv wr => ∃ i : Nat, i ≤ t.size ∧ iv = .int .i64 i ∧ Hid (HX w wr v i (61 :: hexT ((bs t).take i)))) (fun _ iv _ => t.size - (intOf iv).toNat)
  case atStart => exact ⟨0, Nat.zero_le _, rfl, H0⟩
  case round =>
    clear H0
    obtain ⟨i, hi, rfl, hH⟩ := hrel
    by_cases hlt : i < t.size
    · have gx : (bs t)[i]? = some t[i] := by rw [at_bs t i hlt, getElem!_pos t.data i hlt]; rfl
      have TK : Hid (61 :: hexT ((bs t).take i) ++ [hexd (t[i].toNat / 16), hexd (t[i].toNat % 16)] = 61 :: hexT ((bs t).take (i + 1))) := by
        unfold Hid
        rw [List.take_add_one, gx, Option.toList_some, hexT_snoc]
        rfl
      have hv := t[i].toNat_lt
      have r1 : ∀ W : World, (dgM (.int .u8 (IntKind.u8.wrap ((t[i].toNat : Int) / 16)))).run Tryz.prog W = .ok (.int .u8 ((hexd (t[i].toNat / 16)).toNat : Int)) W := fun W => by
        have e : IntKind.u8.wrap ((t[i].toNat : Int) / 16) = ((t[i].toNat / 16 : Nat) : Int) := by rw [IntKind.wrap_u8]; omega
        rw [e]
        exact run_dg _ (by omega) W
      have r2 : ∀ W : World, (dgM (.int .u8 ((t[i].toNat : Int).tmod 16))).run Tryz.prog W = .ok (.int .u8 ((hexd (t[i].toNat % 16)).toNat : Int)) W := fun W => by
        have e : (t[i].toNat : Int).tmod 16 = ((t[i].toNat % 16 : Nat) : Int) := by rw [Int.tmod_eq_emod_of_nonneg (by omega)]; rfl
        rw [e]
        exact run_dg _ (by omega) W
      generalize hexd (t[i].toNat / 16) = d1 at *
      generalize hexd (t[i].toNat % 16) = d2 at *
      obtain ⟨i0, hi0, hz0, hz1, hz2⟩ := info_parts info_u8
      generalize hu : 61 :: hexT ((bs t).take i) = u at *
      rcases hH.out.own with ⟨e0, ev, eu, hc0⟩ | hown
      · subst ev eu
        clear hu e0
        have hA : Hid (∀ (o : Obj) (b : Addr), some (⟨w.heap.size, 0, none⟩ : Addr) = some b → ∀ (j : Nat) (u : Value), [Value.int .u8 61][j]? = some u → ((wr.alloc o).drew).cell? (b.add j) = some u) := fun o b hb j u hu => by
          cases hb
          match j, hu with
          | 0, hu =>
            simp at hu
            subst hu
            show (wr.alloc o).cell? ((⟨w.heap.size, 0, none⟩ : Addr).add 0) = _
            rw [show (⟨w.heap.size, 0, none⟩ : Addr).add 0 = ⟨w.heap.size, 0, none⟩ from rfl, World.cell?_alloc_old _ _ _ (by obtain ⟨g, c, e, _, _, hg⟩ := hH.out.val; simp only [Value.slice.injEq, Option.some.injEq, Addr.mk.injEq, and_true, true_and] at e; obtain ⟨rfl, _⟩ := e; exact Nat.ne_of_lt hg)]
            exact hc0
        have hB : Hid (∀ (j : Nat) (u : Value), [Value.int .u8 (d1.toNat : Int), .int .u8 (d2.toNat : Int)][j]? = some u → ((wr.alloc (.cells #[.int .u8 (d1.toNat : Int), .int .u8 (d2.toNat : Int)] 5)).drew).cell? ((⟨wr.heap.size, 0, none⟩ : Addr).add j) = some u) := fun j u hu => by
          have e : (⟨wr.heap.size, 0, none⟩ : Addr).add j = ⟨wr.heap.size, j, none⟩ := by unfold Addr.add; split <;> simp_all
          rw [e]
          show (wr.alloc (.cells #[.int .u8 (d1.toNat : Int), .int .u8 (d2.toNat : Int)] 5)).cell? _ = _
          simp only [World.cell?, heap_alloc_new]
          simpa using hu
        have hC : Hid (∀ u ∈ [Value.int .u8 (d1.toNat : Int), .int .u8 (d2.toNat : Int)], u.oneCell' = true) := fun u hu => by
          simp at hu
          rcases hu with rfl | rfl <;> rfl
        have HB : Hid (∀ (o : Obj) (w3 : World), ((wr.alloc o).drew).grownBy w3 none → Below w.heap.size w w3) := fun o w3 hg => ((hH.out.bel.alloc hH.out.bel.size o).drew).grown hg (by have := hH.out.bel.size; show w.heap.size ≤ (wr.alloc o).heap.size; simp; omega) (fun k hk => by cases hk)
        have NX : Hid (∀ (w3 : World) (v' : Value), w3.ownsRow w.heap.size 5 1 v' 3 ([Value.int .u8 61] ++ [.int .u8 (d1.toNat : Int), .int .u8 (d2.toNat : Int)]) → Below w.heap.size w w3 → HX w w3 v' (i + 1) (61 :: hexT ((bs t).take (i + 1)))) := fun w3 v' ho hb => by
          have := hH.out.grown (o := .cells #[] 0) d1 d2 (v' := v') (w3 := w3) ho hb
          rw [TK.out] at this
          exact this
        clear hc0
        go_wp2_with fail
        go_region_law (first
          | (refine step_append_grows rfl (.tmp 12) (.tmp 23) 53 rfl 5 i0 _ 1 1 Tryz.underlying53 hi0 hz0 hz1 hz2 rfl (by decide) (some ⟨w.heap.size, 0, none⟩) 1 1 [.int .u8 61] (by rfl) (by intro h; cases h) rfl (hA.out _) ⟨wr.heap.size, 0, none⟩ 2 2 [.int .u8 (d1.toNat : Int), .int .u8 (d2.toNat : Int)] (by rfl) rfl hB.out hC.out (by omega) (by unfold maxLen; omega) (by omega) ?_; intro v3 w3 ho3 hg3; have N3 := hide (NX.out w3 v3 (ownsRow_base ho3 (fun k hk => Nat.le_trans (by have := hH.out.bel.size; show w.heap.size ≤ (wr.alloc _).heap.size; simp; omega) (World.ownsRow.lt ho3 k hk).1)) (HB.out _ w3 hg3)); clear ho3 hg3; dsimp only))
        all_goals
          go_wp2
          go_roundw
          case rel => exact ⟨i + 1, by omega, by go_num, N3⟩
          case measure => simp [intOf]; omega
      · have hul : u.length ≤ 1000 := by
          rw [← hu]
          simp only [List.length_cons, hexT_len, List.length_take]
          omega
        have OW : Hid (∀ o : Obj, ((wr.alloc o).drew).ownsRow w.heap.size 5 1 _ u.length (bvs u)) := fun o => hown.alloc o
        have HC0 : Hid (((wr.alloc (.cells #[.int .u8 (d1.toNat : Int), .int .u8 (d2.toNat : Int)] 5)).drew).cell? ⟨wr.heap.size, 0, none⟩ = some (.int .u8 (d1.toNat : Int))) := by
          show (wr.alloc (.cells #[.int .u8 (d1.toNat : Int), .int .u8 (d2.toNat : Int)] 5)).cell? _ = _
          simp only [World.cell?, heap_alloc_new]
          rfl
        have HC1 : Hid (((wr.alloc (.cells #[.int .u8 (d1.toNat : Int), .int .u8 (d2.toNat : Int)] 5)).drew).cell? ⟨wr.heap.size, 1, none⟩ = some (.int .u8 (d2.toNat : Int))) := by
          show (wr.alloc (.cells #[.int .u8 (d1.toNat : Int), .int .u8 (d2.toNat : Int)] 5)).cell? _ = _
          simp only [World.cell?, heap_alloc_new]
          rfl
        have HZ : Hid (∀ o : Obj, w.heap.size ≤ ((wr.alloc o).drew).heap.size) := fun o => by
          have := hH.out.bel.size
          show w.heap.size ≤ (wr.alloc o).heap.size
          simp
          omega
        have HB := hide (fun (o : Obj) (w3 : World) (hg : ((wr.alloc o).drew).grownBy w3 _) => ((hH.out.bel.alloc hH.out.bel.size o).drew).grown hg (HZ.out o) (fun k hk => (World.ownsRow.lt hown k hk).1))
        have NX : Hid (∀ (w3 : World) (v' : Value), w3.ownsRow w.heap.size 5 1 v' (u.length + 2) (bvs u ++ [.int .u8 (d1.toNat : Int), .int .u8 (d2.toNat : Int)]) → Below w.heap.size w w3 → HX w w3 v' (i + 1) (61 :: hexT ((bs t).take (i + 1)))) := fun w3 v' ho hb => by
          have := hH.out.grown (o := .cells #[] 0) d1 d2 (v' := v') (w3 := w3) ho hb
          rw [TK.out] at this
          exact this
        clear hu hown
        go_wp2_with fail
        go_region_law (first
          | (refine step_app_u82 _ rfl (.tmp 12) (.tmp 23) rfl w.heap.size _ u.length (bvs u) (by rfl) (OW.out _) wr.heap.size (d1.toNat : Int) (d2.toNat : Int) (by rfl) HC0.out HC1.out (by omega) (HZ.out _) ?_; intro g3 c3 w3 ho3 hgr3 hat3 hl3; have N3 := hide (NX.out w3 _ ho3 (HB.out _ w3 hgr3)); clear ho3 hgr3 hat3 hl3; dsimp only))
        all_goals
          go_wp2
          go_roundw
          case rel => exact ⟨i + 1, by omega, by go_num, N3⟩
          case measure => simp [intOf]; omega
    · have ei : i = t.size := by omega
      subst ei
      obtain ⟨g, c, rfl, _⟩ := hH.out.val
      have cv := hH.out.conv
      have e : 61 :: hexT ((bs t).take t.size) = 61 :: hexT (bs t) := by rw [← bs_len, List.take_length]
      have E := hide e
      generalize 61 :: hexT ((bs t).take t.size) = u at *
      clear e
      go_wp2
      go_ret
      exact ⟨by rw [← E.out]; rfl, hH.out.bel⟩

end Go.Proofs.YtaelaldmibgibaaGreatDoor

namespace Go.Proofs.YtaelaldmibgibaaGreatDoor
open Go.RowKit Go.Lib

/-- a file's copy in a new block -/
structure FT (w V : World) (t : ByteArray) (x y : Int) (c : Nat → Int) : Prop where
  blk : V.heap[w.heap.size]? = some (.cells #[.string t, .int .i64 x, .int .i64 y, .int .i64 (c 0), .int .i64 (c 1), .int .i64 (c 2), .int .i64 (c 3), .int .i64 (c 4), .int .i64 (c 5)] 193 (0, 0))
  bel : Below w.heap.size w V
theorem FT.lt {w V : World} {t : ByteArray} {x y : Int} {c : Nat → Int} (h : FT w V t x y c) : w.heap.size < V.heap.size := (Array.getElem?_eq_some_iff.1 h.blk).1
theorem FT.more {w V V' : World} {t : ByteArray} {x y : Int} {c : Nat → Int} (h : FT w V t x y c) (hb : Below V.heap.size V V') : FT w V' t x y c :=
  ⟨by rw [hb.block _ h.lt]; exact h.blk, h.bel.trans (hb.mono h.bel.size)⟩
theorem FT.cells {w V : World} {t : ByteArray} {x y : Int} {c : Nat → Int} (h : FT w V t x y c) : V.cell? ⟨w.heap.size, 0, none⟩ = some (.string t) ∧ V.cell? ⟨w.heap.size, 1, none⟩ = some (.int .i64 x) ∧ V.cell? ⟨w.heap.size, 2, none⟩ = some (.int .i64 y) ∧ V.cell? ⟨w.heap.size, 3, none⟩ = some (.int .i64 (c 0)) ∧ V.cell? ⟨w.heap.size, 4, none⟩ = some (.int .i64 (c 1)) ∧ V.cell? ⟨w.heap.size, 5, none⟩ = some (.int .i64 (c 2)) ∧ V.cell? ⟨w.heap.size, 6, none⟩ = some (.int .i64 (c 3)) ∧ V.cell? ⟨w.heap.size, 7, none⟩ = some (.int .i64 (c 4)) ∧ V.cell? ⟨w.heap.size, 8, none⟩ = some (.int .i64 (c 5)) := by
  refine ⟨?_, ?_, ?_, ?_, ?_, ?_, ?_, ?_, ?_⟩ <;> (simp only [World.cell?, h.blk]; rfl)

/-- how a file is told -/
def DS.fT (d : DS) : Bs := if d.there = true then decDigits d.by_ ++ 58 :: decDigits d.num ++ 32 :: (timeT d.chg ++ 32 :: 61 :: hexT d.text) else [45]
theorem timeT_len (l : List Nat) (hl : ∀ v ∈ l, v ≤ 1000000000) : (timeT l).length ≤ 12 * l.length := by
  induction l with
  | nil => simp [timeT, sepBy]
  | cons a l ih =>
    have h1 := ih (fun v hv => hl v (List.mem_cons_of_mem _ hv))
    have h2 := dig_len 10 a (Nat.lt_of_le_of_lt (hl a (by simp)) (by decide))
    cases l with
    | nil => simp [timeT, sepBy]; omega
    | cons b l =>
      unfold timeT at h1 ⊢
      rw [List.map_cons, List.map_cons, sepBy_cons2]
      rw [List.map_cons] at h1
      simp at h1 ⊢
      omega

set_option maxRecDepth 100000 in
set_option maxHeartbeats 2000000 in
theorem fileTold_any (d : DS) (n : Nat) (h1 : 1 ≤ n) (h6 : n ≤ 6) (hd : d.ok n) (hb : d.born) (w : World) (hg : Glob w) :
    Calls Tryz.prog 123 #[.agg #[.string (ofBs d.text), .int .i64 d.by_, .int .i64 d.num, .int .i64 (lfn d.chg 0), .int .i64 (lfn d.chg 1), .int .i64 (lfn d.chg 2), .int .i64 (lfn d.chg 3), .int .i64 (lfn d.chg 4), .int .i64 (lfn d.chg 5)], .int .i64 n] w fun e w' => e = .returned (.string (ofBs d.fT)) ∧ Below w.heap.size w w' := by
  have F0 : Hid (FT w (w.alloc (.cells #[.string (ofBs d.text), .int .i64 d.by_, .int .i64 d.num, .int .i64 (lfn d.chg 0), .int .i64 (lfn d.chg 1), .int .i64 (lfn d.chg 2), .int .i64 (lfn d.chg 3), .int .i64 (lfn d.chg 4), .int .i64 (lfn d.chg 5)] 193)) (ofBs d.text) d.by_ d.num (lfn d.chg)) := ⟨heap_alloc_new _ _, (Below.refl _ _).alloc (Nat.le_refl _) _⟩
  have IS := hide (fun V => isThere_any (ofBs d.text) d.by_ d.num (lfn d.chg 0) (lfn d.chg 1) (lfn d.chg 2) (lfn d.chg 3) (lfn d.chg 4) (lfn d.chg 5) V)
  cases ht : d.there with
  | false =>
    obtain ⟨e1, e2, e3, e4⟩ := hd.none ht
    have e : d.fT = [45] := by unfold DS.fT; rw [if_neg (by rw [ht]; simp)]
    rw [e]
    have hd0 : decide ((0 : Int) < (d.num : Int)) = false := by rw [e2]; rfl
    rw [hd0] at IS
    clear hg hd0 e1 e2 e3 e4
    generalize (d.num : Int) = num at *
    generalize (d.by_ : Int) = by_ at *
    generalize lfn d.chg = ch at *
    generalize ofBs d.text = tx at *
    go_enter Tryz.func123, Tryz.ntmps123
    go_wp2_with (go_at_call 113; refine (IS.out _).mono ?_; rintro e w1 ⟨rfl, hb1⟩; have F1 := hide (F0.out.more hb1); clear hb1)
    go_ret
    exact ⟨rfl, F1.out.bel⟩
  | true =>
    obtain ⟨y1, y2, y3, y4, y5⟩ := hd.yes ht
    have hn1 := (hb ht).1
    have hd0 : decide ((0 : Int) < (d.num : Int)) = true := by simp; omega
    rw [hd0] at IS
    have ET : Hid (∀ V, FT w V (ofBs d.text) d.by_ d.num (lfn d.chg) → Calls Tryz.prog 178 #[.agg #[.int .i64 d.by_, .int .i64 d.num]] V fun e w' => e = .returned (.string (ofBs (decDigits d.by_ ++ 58 :: decDigits d.num))) ∧ FT w w' (ofBs d.text) d.by_ d.num (lfn d.chg)) := fun V hV => (EventTold_any d.by_ d.num (by omega) y2 V (hg.below hV.bel)).mono fun e w' h => ⟨h.1, hV.more h.2⟩
    have TT' : Hid (∀ V, FT w V (ofBs d.text) d.by_ d.num (lfn d.chg) → Calls Tryz.prog 121 #[.agg #[.int .i64 (lfn d.chg 0), .int .i64 (lfn d.chg 1), .int .i64 (lfn d.chg 2), .int .i64 (lfn d.chg 3), .int .i64 (lfn d.chg 4), .int .i64 (lfn d.chg 5)], .int .i64 n] V fun e w' => e = .returned (.string (ofBs (timeT d.chg))) ∧ FT w w' (ofBs d.text) d.by_ d.num (lfn d.chg)) := fun V hV => (TimeTold_any d.chg n y3 h1 h6 y4 V (hg.below hV.bel)).mono fun e w' h => ⟨h.1, hV.more h.2⟩
    have HT : Hid (∀ V, FT w V (ofBs d.text) d.by_ d.num (lfn d.chg) → Calls Tryz.prog 179 #[.string (ofBs d.text)] V fun e w' => e = .returned (.string (ofBs (61 :: hexT d.text))) ∧ FT w w' (ofBs d.text) d.by_ d.num (lfn d.chg)) := fun V hV => by
      have := Hex_any (ofBs d.text) (by rw [ofBs_size]; exact y5) V
      rw [bs_ofBs] at this
      exact this.mono fun e w' h => ⟨h.1, hV.more h.2⟩
    have HL : Hid (ofBs d.fT = ofBs (decDigits d.by_ ++ 58 :: decDigits d.num) ++ (⟨#[32]⟩ : ByteArray) ++ ofBs (timeT d.chg) ++ (⟨#[32]⟩ : ByteArray) ++ ofBs (61 :: hexT d.text)) := by
      unfold Hid DS.fT
      rw [if_pos ht]
      apply bs_inj
      rw [bs_ofBs, bs_append, bs_append, bs_append, bs_append, bs_ofBs, bs_ofBs, bs_ofBs]
      simp [bs]
    rw [HL.out]
    have s1 : (ofBs (decDigits d.by_ ++ 58 :: decDigits d.num)).size ≤ 1000 := by
      rw [ofBs_size]
      have := dig_len 10 d.by_ (Nat.lt_of_lt_of_le (by omega : d.by_ < 1000000000) (by decide))
      have := dig_len 10 d.num (Nat.lt_of_le_of_lt y2 (by decide))
      simp; omega
    have s2 : (ofBs (timeT d.chg)).size ≤ 1000 := by rw [ofBs_size]; have := timeT_len d.chg y4; omega
    have s3 : (ofBs (61 :: hexT d.text)).size ≤ 1000 := by rw [ofBs_size]; simp only [List.length_cons, hexT_len]; omega
    generalize ofBs (decDigits d.by_ ++ 58 :: decDigits d.num) = da at *
    generalize ofBs (timeT d.chg) = db at *
    generalize ofBs (61 :: hexT d.text) = dc at *
    clear hg hd0 hn1 HL y1 y2
    generalize (d.num : Int) = num at *
    generalize (d.by_ : Int) = by_ at *
    generalize lfn d.chg = ch at *
    generalize ofBs d.text = tx at *
    have n1 : ¬ 9223372036854775807 < da.size + 1 := by omega
    have n2 : ¬ 9223372036854775807 < da.size + 1 + db.size := by omega
    have n3 : ¬ 9223372036854775807 < da.size + 1 + db.size + 1 := by omega
    have n4 : ¬ 9223372036854775807 < da.size + 1 + db.size + 1 + dc.size := by omega
    go_enter Tryz.func123, Tryz.ntmps123
    go_wp2_with (go_at_call 113; refine (IS.out _).mono ?_; rintro e w1 ⟨rfl, hb1⟩; have F1 := hide (F0.out.more hb1); clear hb1)
    have FD : Hid (FT w w1.drew tx by_ num ch) := F1.out.more ⟨rfl, rfl, rfl, Nat.le_refl _, fun _ _ => rfl⟩
    obtain ⟨k0, k1, k2, k3, k4, k5, k6, k7, k8⟩ := F1.out.cells
    go_region_law (first
      | (go_simp; go_at_call 178; refine (ET.out _ (by first | exact E2.out | exact FD.out)).mono ?_; rintro e w2 ⟨rfl, hE⟩; have E2 := hide hE; clear hE; obtain ⟨q0, q1, q2, q3, q4, q5, q6, q7, q8⟩ := E2.out.cells; dsimp only)
      | (go_simp; go_at_call 121; refine (TT'.out _ (by first | exact E2.out | exact FD.out)).mono ?_; rintro e w2 ⟨rfl, hE⟩; have E2 := hide hE; clear hE; obtain ⟨q0, q1, q2, q3, q4, q5, q6, q7, q8⟩ := E2.out.cells; dsimp only)
      | (go_simp; go_at_call 179; refine (HT.out _ (by first | exact E2.out | exact FD.out)).mono ?_; rintro e w2 ⟨rfl, hE⟩; have E2 := hide hE; clear hE; obtain ⟨q0, q1, q2, q3, q4, q5, q6, q7, q8⟩ := E2.out.cells; dsimp only))
    all_goals
      go_wp2
      go_ret
      exact ⟨rfl, E2.out.bel⟩

end Go.Proofs.YtaelaldmibgibaaGreatDoor

namespace Go.Proofs.YtaelaldmibgibaaGreatDoor
open Go.RowKit Go.Lib Go.Maps Go.Sort

/-- what is stored is what is there -/
theorem own_same {base : Nat} {e : TypeId} {g n cap : Nat} {xs : List Value} : ∀ (vs : List Value) (o : Nat) (w : World), w.ownsRow base e 1 (.slice (some ⟨g, 0, none⟩) n cap) n xs → (∀ (k : Nat) u, vs[k]? = some u → xs[o + k]? = some u) → (w.setCells g o vs).ownsRow base e 1 (.slice (some ⟨g, 0, none⟩) n cap) n xs
  | [], _, _, h, _ => h
  | v :: vs, o, w, h, hs => by
    have h0 := hs 0 v rfl
    rw [Nat.add_zero] at h0
    have h1 := h.stored o v
    have e1 : xs.set o v = xs := by
      obtain ⟨hl, e2⟩ := List.getElem?_eq_some_iff.1 h0
      rw [← e2]
      exact List.set_getElem_self hl
    rw [e1] at h1
    exact own_same vs (o + 1) _ h1.1 (fun k u hk => by
      have := hs (k + 1) u (by simpa using hk)
      rw [show o + 1 + k = o + (k + 1) by omega]
      exact this)
theorem compact_rising (ss : List (List UInt8)) (h : ss.Pairwise (fun a b => Op.bytesLess a b = true)) : Lib.compact ss = ss := by
  apply Lib.compact_all
  intro j hj
  by_cases h0 : j = 0
  · subst h0; simp [Lib.keeps]
  · apply Lib.keeps_pos
    have hj' : j < ss.toArray.size := by simpa using hj
    have hj1 : j - 1 < ss.toArray.size := by omega
    rw [getElem!_pos ss.toArray j hj', getElem!_pos ss.toArray (j - 1) hj1]
    simp only [List.getElem_toArray]
    have := List.pairwise_iff_getElem.1 h (j - 1) j (by omega) hj (by omega)
    intro e
    rw [e, bl_irrefl] at this
    cases this

/-- a rising row, made compact: nothing goes -/
theorem compact_row (base g n cap : Nat) (L : List ByteArray) (w : World) (hn : L.length = n) (h : w.ownsRow base 9 1 (.slice (some ⟨g, 0, none⟩) n cap) n (svs L)) (hL : (L.map lst).Pairwise (fun a b => Op.bytesLess a b = true)) (hnl : n ≤ 1000000000) :
    Calls Tryz.prog 177 #[.slice (some ⟨g, 0, none⟩) n cap] w fun e w' => e = .returned (.slice (some ⟨g, 0, none⟩) n cap) ∧ w'.ownsRow base 9 1 (.slice (some ⟨g, 0, none⟩) n cap) n (svs L) ∧ Below base w w' := by
  have hcap : n ≤ cap ∧ base ≤ g := by
    rcases h.2 with ⟨e, _⟩ | ⟨g', cap', cur, e, hb, _, h1, _⟩
    · cases e
    · cases e
      exact ⟨h1, hb⟩
  have ss : Lib.strsOf (fun i => L.getD i .empty) n = L.map lst := by
    unfold Lib.strsOf
    apply List.ext_getElem
    · simp [hn]
    · intro i h1 h2
      simp at h1 h2
      simp [lst, List.getD_eq_getElem?_getD, List.getElem?_eq_getElem h2]
  refine (Tryz.slices_Compact_string_cells g 0 n cap (fun i => L.getD i .empty) w (by omega) hcap.1 (fun i hi => ?_) (fun j hj => ?_)).mono ?_
  · rw [Nat.zero_add, World.ownsRow.cellAt h i (by omega)]
    exact svs_get L i (by omega)
  · rw [Nat.zero_add]
    exact h.frozenAt j
  · rintro e w' ⟨rfl, q, rfl⟩
    rw [ss, compact_rising _ hL, List.length_map, hn, Nat.sub_self, List.replicate_zero, List.append_nil, ← svs_lst]
    refine ⟨rfl, own_same (svs L) 0 (w.drewN q) h (fun k u hk => by rw [Nat.zero_add]; exact hk), ?_⟩
    exact Below.setCells (below_drewN (Below.refl _ _) q) hcap.2 _ _

set_option maxRecDepth 100000 in
set_option maxHeartbeats 2000000 in
theorem pathsOf_one (rb s : Nat) (cm : Nat → Int) (mb : Nat) (E : Recs) (g : Nat) (w : World) (h : Rp w rb s cm mb E) (hl : E.length < 100000000) (hg : w.cell? ⟨g, 0, none⟩ = some (.pointer (some ⟨rb, 0, none⟩))) (hgl : g < w.heap.size) :
    Calls Tryz.prog 122 #[.slice (some ⟨g, 0, none⟩) 1 1] w fun e w' => ∃ v, e = .returned v ∧ w'.ownsRow w.heap.size 9 1 v E.length (svs (E.map (·.1))) ∧ Below w.heap.size w w' := by
  have HR := hide h
  have hE := h.ris
  clear h
  go_enter Tryz.func122, Tryz.ntmps122
  go_wp2
  go_loopw [3, 9] (fun pv iv wr => ∃ i : Nat, i ≤ 1 ∧ iv = .int .i64 i ∧ (∃ l : List ByteArray, wr.ownsRow w.heap.size 9 1 pv l.length (svs l) ∧ l.Perm (if i = 0 then [] else E.map (·.1))) ∧ Hid (Below w.heap.size w wr)) (fun _ iv _ => 1 - (intOf iv).toNat)
  case atStart => exact ⟨0, by omega, rfl, ⟨[], World.ownsRow_nil _ _ _ _, List.Perm.refl _⟩, Below.refl _ _⟩
  case round =>
    obtain ⟨i, hi, rfl, ⟨l0, hrow0, hperm0⟩, hb0⟩ := hrel
    by_cases hi0 : i = 0
    · subst hi0
      have el0 : l0 = [] := by simpa using hperm0
      subst el0
      have g0 : wr.cell? ⟨g, 0, none⟩ = some (.pointer (some ⟨rb, 0, none⟩)) := (hb0.out.cell (p := ⟨g, 0, none⟩) hgl).trans hg
      have RW := HR.out.below hb0.out
      have c7 := RW.rep.c7
      have hown := RW.own
      have hml : mb < w.heap.size := HR.out.own.lt
      clear RW
      go_wp2_with (first
        | (at_range; refine wpList_range_own _ rfl _ 184 rfl 9 197 lawS Tryz.underlying184 _ mb E.length _ rfl hown ?_; intro w0 hrg0 hg0 hs0)
        | go_in)
      have hb1 : Hid (Below w.heap.size w w0) := hb0.out.grown hg0 hb0.out.size (fun j hj => by cases hj)
      have hrow1 := hide (hrow0.kept hg0 (by cases hq : (Value.ownBlock _ : Option Nat) with | none => exact .inl rfl | some k => exact .inr (by simp)))
      have hwz := hb0.out.size
      clear hrow0 hb0 hown
      generalize hzz : wr.heap.size = z at *
      go_loopw [3] (fun v wr2 => ∃ (left : Lit → Bool) (cnt : Nat), wr2.ranges Tryz.prog 9 recElem mb z E.length (datOf E) left cnt ∧ (∃ l : List ByteArray, wr2.ownsRow w.heap.size 9 1 v l.length (svs l) ∧ l.Perm (come left E)) ∧ Hid (Below w.heap.size w wr2)) (fun _ wr2 => wr2.rangeLeft mb z)
      case atStart => exact ⟨_, _, hrg0, ⟨[], hrow1.out, by rw [come_start]⟩, hb1⟩
      case round =>
        obtain ⟨left, cnt, hrg, ⟨l, hrow, hperm⟩, hbw⟩ := hrel
        clear hrg0 hrow1 hb1
        go_wp2_with (first
          | (at_next; refine wpList_next_ranges _ rfl _ rfl 9 lawS recElem Value.string recVal (fun key kl h => Maps.keyOf_string_inv Tryz.underlying9 h) recInv mb z E.length (datOf E) left cnt rfl hrg ?_ ?_)
          | go_in)
        · intro hc0 hl0
          rw [come_end hl0] at hperm
          go_wp2
          go_roundw
          case rel => exact ⟨1, by omega, by go_num, ⟨l, hrow, by rw [if_neg (by omega)]; exact hperm⟩, hbw⟩
          case measure => simp [intOf]
        · intro x R kl yd yp w1 cnt1 hkey hlk hv hat hrg1 hltm hg1 hs1 hen
          obtain ⟨rfl, _⟩ := key_of hkey
          obtain ⟨R', hm, hd⟩ := rec_at hat
          have LS := hide (come_step hE hm hlk)
          have hll : l.length ≤ E.length := by rw [hperm.length_eq]; exact come_le left E
          have HB1 : Hid (Below w.heap.size w w1) := hbw.out.grown hg1 hbw.out.size (fun j hj => by cases hj; exact hwz)
          have NI := hide (row_ne_iter hrow hrg)
          have hrow1 := hide (ownsRow_keep (w' := w1) hrow (fun k e => by have := World.ownsRow.lt hrow k e; exact hg1.block k this.2 (fun e' => NI.out (by rw [e, ← e']))))
          have RG := hide hrg
          have RG1 := hide hrg1
          have HP := hide hperm
          clear hkey hat hv hd hm hg1 hrg hrg1 hrow hperm hs1
          simp only [recVal] at hen ⊢
          go_wp2_with (at_builtin; refine app_str _ rfl (.tmp 22) (.tmp 24) rfl w.heap.size _ _ _ rfl (hrow1.out.alloc _) w1.heap.size x rfl (by simp) (by omega) (by have := HB1.out.size; simp; omega) ?_; intro g2 c2 w3 ho3 hgr3 hat3 hl3)
          have NI2 := hide (row_ne_iter hrow1.out RG1.out)
          have HB3 := hide (grown_below (HB1.out.alloc HB1.out.size _) hgr3 (fun q hq => (World.ownsRow.lt hrow1.out q hq).1))
          have RG3 := hide ((RG1.out.alloc _).kept hgr3 (fun e => by have := (World.ownsRow.lt hrow1.out mb e.symm).1; omega) NI2.out)
          have HRW := hide ho3
          clear hgr3 ho3 hat3
          go_roundw
          case rel => exact ⟨_, cnt1, RG3.out, ⟨l ++ [x], by rw [svs_append, List.length_append]; exact HRW.out, ((List.perm_append_comm).trans (List.Perm.cons x HP.out)).trans LS.out.symm⟩, HB3⟩
          case measure => rw [RG3.out.left_eq, RG.out.left_eq]; exact hltm
    · have ei : i = 1 := by omega
      subst ei
      rw [if_neg (by omega)] at hperm0
      have hll : l0.length = E.length := by rw [hperm0.length_eq, List.length_map]
      rcases hrow0.2 with ⟨rfl, h0⟩ | ⟨g1, cap, cur, rfl, hbase, hb, h1, h2, h3, h4⟩
      · have el : l0 = [] := List.length_eq_zero_iff.1 h0
        subst el
        have eE : E = [] := List.length_eq_zero_iff.1 (by rw [← hll]; rfl)
        subst eE
        go_wp2_with (first
          | (go_at_call 176; refine (Tryz.slices_Sort_string_none none 0 wr).mono ?_; rintro e w5 ⟨rfl, rfl⟩)
          | (go_at_call 177; refine (Tryz.slices_Compact_string_empty none 0 _).mono ?_; rintro e w6 ⟨rfl, rfl⟩))
        go_ret
        exact ⟨_, rfl, World.ownsRow_nil _ _ _ _, hb0.out⟩
      · have hss : (l0.map lst).length = l0.length := by simp
        have hH : Holds encStr wr g1 0 (l0.map lst).toArray := holds_of_block hb (by rw [hss, ← svs_lst]; simpa using h4)
        have SC := hide (Tryz.slices_Sort_string g1 0 cap (l0.map lst) wr hH (Array.getElem?_eq_some_iff.1 hb).1 (by rw [hss]; omega))
        rw [sorted_eq (l0.map lst) _ (rising_lst hE) (hperm0.map lst), hss] at SC
        have SD : Hid (∀ (w5 : World), (∃ nn os, w5 = grow (putRow encStr (Sort.ahead wr nn) g1 0 ((E.map (·.1)).map lst).toArray) os) → w5.ownsRow w.heap.size 9 1 (.slice (some ⟨g1, 0, none⟩) l0.length cap) l0.length (svs (E.map (·.1))) ∧ Below w.heap.size w w5) := fun w5 hw5 => by
          obtain ⟨nn, os, rfl⟩ := hw5
          refine ⟨?_, hb0.out.grown (grownBy_sorted _) hb0.out.size (fun j hj => by cases hj; exact hbase)⟩
          have := ownsRow_sorted (n := nn) (os := os) (ss := l0.map lst) (ts := (E.map (·.1)).map lst) (by simp [hll]) hbase hb (by rw [hss]; exact h1) h2 h3
          rw [hss, ← svs_lst] at this
          exact this
        have CC : Hid (∀ (w5 : World), w5.ownsRow w.heap.size 9 1 (.slice (some ⟨g1, 0, none⟩) l0.length cap) l0.length (svs (E.map (·.1))) → Calls Tryz.prog 177 #[.slice (some ⟨g1, 0, none⟩) l0.length cap] w5 fun e w' => e = .returned (.slice (some ⟨g1, 0, none⟩) l0.length cap) ∧ w'.ownsRow w.heap.size 9 1 (.slice (some ⟨g1, 0, none⟩) l0.length cap) l0.length (svs (E.map (·.1))) ∧ Below w.heap.size w5 w') := fun w5 h5 => compact_row w.heap.size g1 l0.length cap (E.map (·.1)) w5 (by rw [List.length_map, hll]) h5 (rising_lst hE) (by omega)
        have HLL := hide hll
        clear hH hb h4 hrow0 hll hperm0 hss
        generalize l0.length = n0 at *
        go_wp2_with (first
          | (go_at_call 176; refine SC.out.mono ?_; rintro e w5 ⟨rfl, hw5⟩; have S5 := hide (SD.out w5 hw5); clear hw5)
          | (go_at_call 177; refine (CC.out _ S5.out.1).mono ?_; rintro e w6 ⟨rfl, ho6, hb6⟩; have O6 := hide ho6; have B6 := hide hb6; clear ho6 hb6))
        go_ret
        refine ⟨_, rfl, ?_, S5.out.2.trans B6.out⟩
        rw [← HLL.out]
        exact O6.out

end Go.Proofs.YtaelaldmibgibaaGreatDoor
