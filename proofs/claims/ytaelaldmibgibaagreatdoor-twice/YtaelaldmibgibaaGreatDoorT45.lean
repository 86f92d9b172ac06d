/- The program's linesOf, Seal, Pack. The program's Seal, Pack, Unpack. The program's Pack of a net as the statements hold it. Keys of two replicas, rising and each once: what sorting and making compact gives. Keys of two replicas: the union, sorted. The paths of two replicas: pathsOf. Pulling all: what is gathered path by path; append of a change. Pulling all: how it stands when some of the paths have been pulled. -/
import Derived.Test.YtaelaldmibgibaaGreatDoorRows
import Derived.WalkKit
import Derived.WalkSpells
import Derived.WalkLawsBesides
import Derived.Deep.AppendLies
import Derived.Deep.MidRow
import Derived.Deep.DrawnRows
import Derived.BigQuiet
import Derived.Deep.QuietTactic
import Derived.Deep.RegionWith
import Derived.Deep.RegionHeld3
import Derived.Test.YtaelaldmibgibaaGreatDoorT01
import Derived.ChangeKeysEq
import Derived.Deep.RegionLaw
import Derived.Deep.DeepMust
import Derived.Maps.OwnSet
import Derived.Maps.OwnOps
import Derived.Maps.Range
import Derived.Maps.RangeWalk
import Derived.Sort.MapsRangeIn
import Derived.Sort.OwnSorted
import Derived.Lib.ItoaNum
import Derived.Lib.AtoiAll
import Derived.Lib.Strings
import Derived.Test.YtaelaldmibgibaaGreatDoorT02
import Derived.Lib.Split
import Derived.Lib.LastIndexByte
import Derived.Deep.RegionLawGrows
import Derived.Lib.SlBytesConst
import Derived.Test.YtaelaldmibgibaaGreatDoorT03
import Derived.Test.YtaelaldmibgibaaGreatDoorT04
import Derived.Test.YtaelaldmibgibaaGreatDoorT05
import Derived.Test.YtaelaldmibgibaaGreatDoorT06
import Derived.Test.YtaelaldmibgibaaGreatDoorT07
import Derived.Test.YtaelaldmibgibaaGreatDoorT08
import Derived.Test.YtaelaldmibgibaaGreatDoorT09
import Derived.Test.YtaelaldmibgibaaGreatDoorT10
import Derived.Test.YtaelaldmibgibaaGreatDoorT11
import Derived.Test.YtaelaldmibgibaaGreatDoorT12
import Derived.Test.YtaelaldmibgibaaGreatDoorT13
import Derived.Test.YtaelaldmibgibaaGreatDoorT14
import Derived.Test.YtaelaldmibgibaaGreatDoorT15
import Derived.Test.YtaelaldmibgibaaGreatDoorT16
import Derived.Test.YtaelaldmibgibaaGreatDoorT17
import Derived.Test.YtaelaldmibgibaaGreatDoorT18
import Derived.Test.YtaelaldmibgibaaGreatDoorT19
import Derived.Test.YtaelaldmibgibaaGreatDoorT20
import Derived.Test.YtaelaldmibgibaaGreatDoorT35
import Derived.Test.YtaelaldmibgibaaGreatDoorT36

set_option linter.unusedVariables false
set_option linter.unusedSimpArgs false
set_option linter.unusedSectionVars false
set_option maxHeartbeats 4000000
set_option maxRecDepth 100000

namespace Go.Proofs.YtaelaldmibgibaaGreatDoor
open Go.RowKit Go.Lib Go.Maps
theorem app_row {ops : Array Oper} {ybo : List Oper} {o : Oper} {a : Act} {Q : Exit → Act → World → Prop} (w : World) (hgd : o.guard = none) (s x : Operand) (ho : o.op = .call { callee := .builtin .append, args := #[s, x], argTypes := #[25, 25] }) (base : Nat) (v : Value) (n : Nat) (xs : List Value) (hs : a.eval s = v) (hown : w.ownsRow base 9 1 v n xs)
  (g2 m c2 base2 : Nat) (L : List ByteArray) (hL : L.length = m) (hm : 0 < m) (hx : a.eval x = .slice (some ⟨g2, 0, none⟩) m c2) (h2 : w.ownsRow base2 9 1 (.slice (some ⟨g2, 0, none⟩) m c2) m (svs L)) (hn : n + m ≤ 1000000000) (hb : base ≤ w.heap.size)
  (h : ∀ g cap w1, w1.ownsRow base 9 1 (.slice (some ⟨g, 0, none⟩) (n + m) cap) (n + m) (xs ++ svs L) → w.grownBy w1 v.ownBlock → (v.ownBlock = some g ∨ g = w.heap.size) → g < w1.heap.size → wpList Tryz.prog ops Q ybo (a.put o.dst (.slice (some ⟨g, 0, none⟩) (n + m) cap)) w1) :
  wpList Tryz.prog ops Q (o :: ybo) a w := by
 obtain ⟨i0, hi, hz0, hz1, hz2⟩ := info_parts yix
 refine wpList_append_lies w hgd s x 25 ho base 9 i0 _ 1 16 Tryz.underlying25 hi hz0 hz1 hz2 rfl (by decide) v n xs hs hown ⟨g2, 0, none⟩ m c2 (svs L) hx (by rw [svs_length, hL]; omega) (h2.cells rfl) ?_ hm (by unfold maxLen; omega) (by omega) hb _ rfl h
 intro u hu
 obtain ⟨z, _, rfl⟩ := List.mem_map.1 hu
 rfl
def ylb (m : List DR) (i : Nat) : List Bs := (bs yib ++ decDigits m.length) :: ((m.take i).map ybp).flatten
theorem ymw (m : List DR) (i : Nat) (d : DR) (hd : m[i]? = some d) : ylb m (i + 1) = ylb m i ++ ybp d := by
 unfold ylb
 rw [List.take_add_one, hd, Option.toList_some, List.map_append, List.flatten_append]
 simp
theorem preN_all (m : List DR) : ylb m m.length = ydi m := by
 unfold ylb ydi
 rw [List.take_length]
structure NL (w wr : World) (lv : Value) (m : List DR) (i : Nat) : Prop where
 bel : Below w.heap.size w wr
 own : wr.ownsRow w.heap.size 9 1 lv (ylb m i).length (svs ((ylb m i).map yax))
theorem NL.more {w wr w2 : World} {lv : Value} {m : List DR} {i : Nat} (h : NL w wr lv m i) (hb : Below wr.heap.size wr w2) : NL w w2 lv m i :=
 ⟨h.bel.trans (hb.mono h.bel.size), yan h.own (fun k e => hb.block k (World.ownsRow.lt h.own k e).2)⟩
theorem preN_lenK (K : Nat) (m : List DR) (hr : ∀ d ∈ m, d.recs.length + 1 ≤ K) : ∀ i, (ylb m i).length ≤ 1 + i * K := by
 intro i
 induction i with
 |zero => simp [ylb]
 |succ i ih =>
  have hk : (i + 1) * K = i * K + K := Nat.succ_mul i K
  cases hd : m[i]? with
  |none =>
   have e : ylb m (i + 1) = ylb m i := by unfold ylb; rw [List.take_add_one, hd]; simp
   rw [e, hk]
   omega
  |some d =>
   rw [ymw m i d hd, List.length_append, hk]
   have h2 := hr d (List.mem_of_getElem? hd)
   have h3 : (ybp d).length = d.recs.length + 1 := by unfold ybp; simp
   omega
theorem preN_len (m : List DR) (hr : ∀ d ∈ m, d.recs.length ≤ 10000000) (i : Nat) (_ : i ≤ 6) : (ylb m i).length ≤ 1 + i * 10000001 := preN_lenK 10000001 m (fun d hd => by have := hr d hd; omega) i
theorem Seal_any (s : ByteArray) (hs : s.size ≤ 1000000000000) (w : World) (hg : yli w) :
  Calls Tryz.prog 37 #[.string s] w fun e w' => e = .returned (.string (yax (bs s ++ yoi (bs s)))) ∧ Below w.heap.size w w' := by
 have SL := yac (ywp s hs w hg)
 have hl : (yax (yoi (bs s))).size ≤ 1000000 := by
  rw [ycf]
  unfold yoi
  have h1 : sumL (bs s) < 1000003 := by rw [sumL_bs]; exact yrm s _
  have h2 := ydh 10 (sumL (bs s)) (Nat.lt_of_lt_of_le h1 (by decide))
  have h3 : (bs sumW).length = 4 := rfl
  simp only [List.length_append, List.length_cons, List.length_nil, h3]
  omega
 have HL : Hid (yax (bs s ++ yoi (bs s)) = s ++ yax (yoi (bs s))) := by
  unfold Hid
  apply yig
  rw [ybe, ybj, ybe]
 rw [HL.out]
 generalize yax (yoi (bs s)) = l at *
 have n1 : ¬ 9223372036854775807 < s.size + l.size := by omega
 clear hg HL
 go_enter Tryz.func37, Tryz.ntmps37
 go_wp2_with (go_at_call 68; refine SL.out.mono ?_; rintro e w1 ⟨rfl, hb1⟩)
 go_ret
 exact ⟨rfl, hb1⟩
theorem yme (l : List Bs) : (l.map yax).map bs = l := by
 rw [List.map_map]
 conv => rhs; rw [← List.map_id l]
 apply List.map_congr_left
 intro x _
 exact ybe x
structure Tell (i : Nat) (s : RS) (d : DR) : Prop where
 com : lfn d.com = s.cm
 keys : s.E.map (·.1) = d.recs.map (·.1)
 recs : ∀ y ∈ d.recs, yay i s.cm (yas y.1 s.E) = yej y.2
 born : ∀ y ∈ d.recs, y.2.born
structure Tells (S : List RS) (m : List DR) : Prop where
 len : S.length = m.length
 at_ : ∀ (i : Nat) s d, S[i]? = some s → m[i]? = some d → Tell i s d
theorem yuh (rb s mb : Nat) (E : yat) (d : DR) (n : Nat) (h1 : 1 ≤ n) (h6 : n ≤ 6) (hd : d.ok n) (hE : E.map (·.1) = d.recs.map (·.1)) (hRR : ∀ y ∈ d.recs, yay s (lfn d.com) (yas y.1 E) = yej y.2) (hgd : ∀ y ∈ d.recs, y.2.born) (hlen : d.recs.length < 100000000) (w : World) (h : Rp w rb s (lfn d.com) mb E) (hg : yli w) :
  Calls Tryz.prog 73 #[.pointer (some ⟨rb, 0, none⟩), .int .i64 n] w fun e w' => ∃ g cap, e = .returned (.slice (some ⟨g, 0, none⟩) (d.recs.length + 1) cap) ∧ w'.ownsRow w.heap.size 9 1 (.slice (some ⟨g, 0, none⟩) (d.recs.length + 1) cap) (d.recs.length + 1) (svs ((ybp d).map yax)) ∧ Below w.heap.size w w' := by
 refine (LinesG_any rb s mb E d n h1 h6 hd hE hRR hgd hlen w h hg).mono ?_
 rintro e w' ⟨v, rfl, ho, hb⟩
 obtain ⟨g, cap, rfl, _⟩ := World.ownsRow.form ho (by omega)
 exact ⟨g, cap, rfl, ho, hb⟩
theorem nlines_any {nb pb : Nat} {L : List (Nat × Nat)} {S : List RS} (m : List DR) (w : World) (h : Nt w nb pb L S) (hm : okNet m) (hgn : Tells S m) (hr : ∀ d ∈ m, d.recs.length ≤ 10000000) (hg : yli w) :
  Calls Tryz.prog 39 #[.pointer (some ⟨nb, 0, none⟩)] w fun e w' => ∃ v, e = .returned v ∧ w'.ownsRow w.heap.size 9 1 v (ydi m).length (svs ((ydi m).map yax)) ∧ Below w.heap.size w w' := by
 obtain ⟨cap, hb⟩ := h.net.blk
 rw [hgn.len] at hb
 have n1 := hm.n1
 have n6 := hm.n6
 have HC : Hid (∀ V, Below w.heap.size w V → V.cell? ⟨nb, 0, none⟩ = some (.slice (some ⟨pb, 0, none⟩) m.length cap)) := fun V hV => by
  rw [hV.cell (p := ⟨nb, 0, none⟩) h.nlt]
  simp [World.cell?, hb]
 have c0 := HC.out w (Below.refl _ _)
 have IT := yac (ylr m.length (by omega) w hg)
 have E0 : Hid ((⟨#[114, 101, 117, 110, 105, 111, 110, 32]⟩ : ByteArray) ++ yax (decDigits m.length) = yax (bs yib ++ decDigits m.length)) := by
  unfold Hid
  apply yig
  rw [ybj, ybe, ybe]
  rfl
 have s0 : (yax (decDigits m.length)).size ≤ 1000 := by rw [ycf]; have := ydh 10 m.length (Nat.lt_of_le_of_lt n6 (by decide)); omega
 have ST : Hid (∀ (w1 : World) (s1 : ByteArray), Below w.heap.size w w1 → s1 = yax (bs yib ++ decDigits m.length) → NL w (w1.alloc (.cells #[.string s1] 9)) (.slice (some ⟨w1.heap.size, 0, none⟩) 1 1) m 0) := fun w1 s1 hb1 hs => ⟨hb1.alloc hb1.size _, by
  have : (ylb m 0).map yax = [s1] := by rw [hs]; rfl
  rw [this]
  exact World.ownsRow_lit w1 #[.string s1] 1 hb1.size (by unfold maxLen; omega) rfl⟩
 have LN : Hid (∀ W, Below w.heap.size w W → ∀ i, i < m.length → ∃ rb d, m[i]? = some d ∧ W.cell? ⟨pb, i, none⟩ = some (.pointer (some ⟨rb, 0, none⟩)) ∧ Calls Tryz.prog 73 #[.pointer (some ⟨rb, 0, none⟩), .int .i64 m.length] W fun e w' => ∃ g cap, e = .returned (.slice (some ⟨g, 0, none⟩) (d.recs.length + 1) cap) ∧ w'.ownsRow W.heap.size 9 1 (.slice (some ⟨g, 0, none⟩) (d.recs.length + 1) cap) (d.recs.length + 1) (svs ((ybp d).map yax)) ∧ Below W.heap.size W w') := fun W hW i hi => by
  have hi2 : i < S.length := by rw [hgn.len]; exact hi
  have hi3 : i < L.length := by rw [h.len]; exact hi2
  have a1 : m[i]? = some m[i] := List.getElem?_eq_getElem hi
  have aS : S[i]? = some S[i] := List.getElem?_eq_getElem hi2
  have aL : L[i]? = some L[i] := List.getElem?_eq_getElem hi3
  have hdm := List.mem_of_getElem? a1
  have q := hgn.at_ i _ _ aS a1
  have hR := (h.below hW).rep i _ _ aL aS
  refine ⟨(L[i]).1, m[i], a1, (h.below hW).net.row i _ (by rw [List.getElem?_map, aL]; rfl), ?_⟩
  rw [← q.com] at hR
  exact yuh _ i _ _ _ _ n1 n6 (hm.oks _ hdm) q.keys (by rw [q.com]; exact q.recs) q.born (by have := hr _ hdm; omega) W ⟨hR.rep, hR.own, hR.ris⟩ (hg.below hW)
 have PL := yac (preN_len m hr)
 have HR := yac hr
 generalize hn : m.length = n at *
 generalize yax (decDigits n) = dd at *
 have q1 : ¬ 9223372036854775807 < 8 + dd.size := by omega
 clear h hb hm hgn hr hg
 go_enter Tryz.func39, Tryz.ntmps39
 go_wp2_with (go_at_call 72; refine IT.out.mono ?_; rintro e w1 ⟨rfl, hb1⟩; have c1 := HC.out w1 hb1; have N1 := yac (ST.out w1 _ hb1 E0.out); have c2 := HC.out _ N1.out.bel; clear hb1)
 clear c0 q1 s0
 go_loopw [4, 21] (fun lv iv wr => ∃ i : Nat, i ≤ n ∧ iv = .int .i64 i ∧ Hid (NL w wr lv m i)) (fun _ iv _ => n - (Go.RowKit.intOf iv).toNat)
 case atStart => exact ⟨0, Nat.zero_le _, rfl, N1⟩
 case round =>
  clear N1 c1 c2 IT E0 ST
  obtain ⟨i, hi, rfl, hN⟩ := hrel
  by_cases hlt : i < n
  ·obtain ⟨rb, d, hd, hc, hL⟩ := LN.out wr hN.out.bel i hlt
   have LL := yac hL
   have hdl : d.recs.length ≤ 10000000 := HR.out d (List.mem_of_getElem? hd)
   have hpl := PL.out i (by omega)
   have NX : Hid (∀ (w3 : World) (g cap' : Nat), w3.ownsRow w.heap.size 9 1 (.slice (some ⟨g, 0, none⟩) ((ylb m i).length + (d.recs.length + 1)) cap') ((ylb m i).length + (d.recs.length + 1)) (svs ((ylb m i).map yax) ++ svs ((ybp d).map yax)) → Below w.heap.size w w3 → NL w w3 (.slice (some ⟨g, 0, none⟩) ((ylb m i).length + (d.recs.length + 1)) cap') m (i + 1)) := fun w3 g cap' ho hb3 => ⟨hb3, by
    have e1 : (ylb m (i + 1)).length = (ylb m i).length + (d.recs.length + 1) := by rw [ymw m i d hd, List.length_append]; unfold ybp; simp
    have e2 : svs ((ylb m (i + 1)).map yax) = svs ((ylb m i).map yax) ++ svs ((ybp d).map yax) := by rw [ymw m i d hd, List.map_append, yeo]
    rw [e1, e2]
    exact ho⟩
   have hll : ((ybp d).map yax).length = d.recs.length + 1 := by unfold ybp; simp
   have BG : Hid (∀ w2 w3 : World, NL w w2 u4 m i → w2.grownBy w3 u4.ownBlock → Below w.heap.size w w3) := fun w2 w3 hn2 hg3 => ydb hn2.bel hg3 (fun k hk => (World.ownsRow.lt hn2.own k hk).1)
   have OW : Hid (∀ w2 : World, NL w w2 u4 m i → w2.ownsRow w.heap.size 9 1 u4 (ylb m i).length (svs ((ylb m i).map yax))) := fun w2 hn2 => hn2.own
   generalize (ylb m i).length = pl at *
   generalize (ybp d).map yax = ls at *
   generalize d.recs.length = dl at *
   clear hL hd
   go_wp2_with (first
    |(go_at_call 73; refine LL.out.mono ?_; rintro e w2 ⟨g2, c2, rfl, ho2, hb2⟩; have N2 := yac (hN.out.more hb2); have O2 := yac ho2; clear ho2 hb2)
    |(at_builtin; refine app_row _ rfl (.tmp 25) (.tmp 28) rfl w.heap.size u4 pl _ rfl (OW.out w2 N2.out) g2 (dl + 1) c2 wr.heap.size ls hll (by omega) rfl O2.out (by omega) (by have := N2.out.bel.size; omega) ?_; intro g3 c3 w3 ho3 hgr3 hat3 hl3; have N3 := yac (NX.out w3 g3 c3 ho3 (BG.out w2 w3 N2.out hgr3)); clear ho3 hgr3 hat3 hl3))
   go_roundw
   case rel => exact ⟨i + 1, by omega, by go_num, N3⟩
   case measure => simp [Go.RowKit.intOf]; omega
  ·have ei : i = n := by omega
   subst ei
   have EL : Hid (ylb m i = ydi m) := by unfold Hid; rw [← hn]; exact preN_all m
   go_wp2
   go_ret
   refine ⟨_, rfl, ?_, hN.out.bel⟩
   rw [← EL.out]
   exact hN.out.own
theorem npack_any {nb pb : Nat} {L : List (Nat × Nat)} {S : List RS} (m : List DR) (w : World) (h : Nt w nb pb L S) (hm : okNet m) (hgn : Tells S m) (hr : ∀ d ∈ m, d.recs.length ≤ 10000000) (hsz : (ynz m).length ≤ 10000000) (hg : yli w) :
  Calls Tryz.prog 18 #[.pointer (some ⟨nb, 0, none⟩)] w fun e w' => e = .returned (.string (yax (yvo m))) ∧ Below w.heap.size w w' := by
 have hnet := h.net
 rw [hgn.len] at hnet
 have HS := yac (yva nb m.length pb _ 0 w hnet)
 have n1 := hm.n1
 rw [decide_eq_true (by omega : (0 : Int) ≤ 0 ∧ (0 : Int) < (m.length : Int))] at HS
 have LO := yac (nlines_any m w h hm hgn hr hg)
 have hT := linesN_T m
 have hlen : (ydi m).length ≤ 100000000 := by
  rw [← preN_all m]
  have := preN_len m hr m.length hm.n6
  have := hm.n6
  omega
 have JN : Hid (∀ (W : World) (v : Value), W.ownsRow w.heap.size 9 1 v (ydi m).length (svs ((ydi m).map yax)) → Calls Tryz.prog 38 #[v, .string ⟨#[10]⟩] W fun e w' => e = .returned (.string (yax (yft 10 (ydi m)))) ∧ Below W.heap.size W w') := fun W v ho => by
  have hl : ((ydi m).map yax).length = (ydi m).length := List.length_map _
  rw [← hl] at ho
  have hs : (yft 10 (ydi m)).length ≤ 10000000 := by have := congrArg List.length hT; simp at this; omega
  have := join_row 10 w.heap.size v ((ydi m).map yax) W ho (by rw [hl]; exact hlen) (by rw [yme]; omega)
  rw [yme] at this
  exact this
 have EB : Hid (yax (yft 10 (ydi m)) ++ (⟨#[10]⟩ : ByteArray) = yax (ynz m)) := by
  unfold Hid
  apply yig
  rw [ybj, ybe, ybe, ← hT]
  rfl
 have SE : Hid (∀ W, Below w.heap.size w W → Calls Tryz.prog 37 #[.string (yax (ynz m))] W fun e w' => e = .returned (.string (yax (yvo m))) ∧ Below W.heap.size W w') := fun W hW => by
  have := Seal_any (yax (ynz m)) (by rw [ycf]; omega) W (hg.below hW)
  rw [ybe] at this
  exact this
 have s1 : (yax (yft 10 (ydi m))).size ≤ 10000000 := by rw [ycf]; have := congrArg List.length hT; simp at this; omega
 rw [← EB.out] at SE
 generalize yax (yft 10 (ydi m)) = jn at *
 generalize yax (yvo m) = pk at *
 have q1 : ¬ 9223372036854775807 < jn.size + 1 := by omega
 clear hg EB hT h hm hgn hr hnet
 go_enter Tryz.func18, Tryz.ntmps18
 go_wp2_with (first
  |(go_at_call 36; refine HS.out.mono ?_; rintro e w ⟨rfl, rfl⟩)
  |(go_at_call 39; refine LO.out.mono ?_; rintro e w1 ⟨v, rfl, ho1, hb1⟩; have O1 := yac ho1; have H1 := yac hb1; clear ho1 hb1)
  |(go_at_call 38; refine (JN.out _ _ O1.out).mono ?_; rintro e w2 ⟨rfl, hb2⟩; have H2 := yac (H1.out.trans (hb2.mono H1.out.size)); clear hb2)
  |(go_at_call 37; refine (SE.out _ H2.out).mono ?_; rintro e w3 ⟨rfl, hb3⟩; have H3 := yac (H2.out.trans (hb3.mono H2.out.size)); clear hb3))
 go_ret
 exact ⟨rfl, H3.out⟩
open Go.RowKit
theorem yod (T : List (List UInt8)) (h : T.Pairwise (fun a b => Op.bytesLess b a = false)) :
  (Lib.compact T).Pairwise (fun a b => Op.bytesLess a b = true) ∧ ∀ x, x ∈ Lib.compact T ↔ x ∈ T := by
 have key : ∀ m, m ≤ T.length → (Lib.compactUpTo T.toArray m).Pairwise (fun a b => Op.bytesLess a b = true) ∧ (∀ x, x ∈ Lib.compactUpTo T.toArray m ↔ x ∈ T.take m) := by
  intro m
  induction m with
  |zero => intro _; exact ⟨by simp [Lib.compactUpTo], by simp [Lib.compactUpTo]⟩
  |succ m ih =>
   intro hm
   obtain ⟨i1, i2⟩ := ih (by omega)
   have hlt : m < T.length := by omega
   have hsz : m < T.toArray.size := by simpa using hlt
   have eg : T.toArray[m]! = T[m] := by rw [getElem!_pos T.toArray m hsz]; rfl
   rw [Lib.compactUpTo_succ, List.take_succ_eq_append_getElem hlt]
   by_cases hk : Lib.keeps T.toArray m = true
   ·rw [if_pos hk, eg]
    refine ⟨List.pairwise_append.2 ⟨i1, by simp, ?_⟩, fun x => by simp only [List.mem_append, i2 x]⟩
    intro a ha b hb
    rw [List.mem_singleton] at hb
    subst hb
    have ha' := (i2 a).1 ha
    obtain ⟨j, hj, e⟩ := List.mem_take_iff_getElem.1 ha'
    have hjm : j < m := by omega
    have hle := List.pairwise_iff_getElem.1 h j m (by omega) hlt hjm
    have hle1 : Op.bytesLess T[m] a = false := by rw [← e]; exact hle
    cases hb : Op.bytesLess a T[m] with
    |true => rfl
    |false =>
     exfalso
     have e2 : a = T[m] := yrw _ _ hb hle1
     have hm0 : m ≠ 0 := by omega
     have hne : T.toArray[m]! ≠ T.toArray[m - 1]! := by
      simpa [Lib.keeps, hm0] using hk
     have hp : m - 1 < T.length := by omega
     have ep : T.toArray[m - 1]! = T[m - 1] := by rw [getElem!_pos T.toArray (m - 1) (by simpa using hp)]; rfl
     rw [eg, ep] at hne
     apply hne
     by_cases hj1 : j = m - 1
     ·subst hj1
      rw [← e2, ← e]
     ·have q1 := List.pairwise_iff_getElem.1 h j (m - 1) (by omega) hp (by omega)
      have q2 := List.pairwise_iff_getElem.1 h (m - 1) m hp hlt (by omega)
      refine yrw _ _ q2 ?_
      have : T[j]'(by omega) = T[m] := e.trans e2
      rw [← this]
      exact q1
   ·rw [if_neg hk, List.append_nil]
    refine ⟨i1, fun x => ?_⟩
    rw [i2 x, List.mem_append, List.mem_singleton]
    constructor
    ·exact .inl
    ·rintro (q | rfl)
     ·exact q
     ·have hm0 : m ≠ 0 := by
       rintro rfl
       exact hk (by simp [Lib.keeps])
      have heq : T.toArray[m]! = T.toArray[m - 1]! := by
       simpa [Lib.keeps, hm0] using hk
      have hp : m - 1 < T.length := by omega
      have ep : T.toArray[m - 1]! = T[m - 1] := by rw [getElem!_pos T.toArray (m - 1) (by simpa using hp)]; rfl
      rw [eg, ep] at heq
      rw [heq]
      exact List.mem_take_iff_getElem.2 ⟨m - 1, by omega, rfl⟩
 have := key T.length (Nat.le_refl _)
 rw [List.take_length] at this
 exact this
theorem yph : ∀ (A B : List (List UInt8)), A.Pairwise (fun a b => Op.bytesLess a b = true) → B.Pairwise (fun a b => Op.bytesLess a b = true) → (∀ x, x ∈ A ↔ x ∈ B) → A = B
 |[], [], _, _, _ => rfl
 |[], b :: B, _, _, h => absurd ((h b).2 (by simp)) (by simp)
 |a :: A, [], _, _, h => absurd ((h a).1 (by simp)) (by simp)
 |a :: A, b :: B, hA, hB, h => by
  obtain ⟨a1, a2⟩ := List.pairwise_cons.1 hA
  obtain ⟨b1, b2⟩ := List.pairwise_cons.1 hB
  have e : a = b := by
   rcases List.mem_cons.1 ((h a).1 (by simp)) with q | q
   ·exact q
   ·rcases List.mem_cons.1 ((h b).2 (by simp)) with r | r
    ·exact r.symm
    ·have := yht _ _ _ (a1 b r) (b1 a q)
     rw [yer] at this
     cases this
  subst e
  congr 1
  refine yph A B a2 b2 fun x => ?_
  constructor
  ·intro hx
   rcases List.mem_cons.1 ((h x).1 (List.mem_cons_of_mem _ hx)) with rfl | q
   ·have := a1 x hx; rw [yer] at this; cases this
   ·exact q
  ·intro hx
   rcases List.mem_cons.1 ((h x).2 (List.mem_cons_of_mem _ hx)) with rfl | q
   ·have := b1 x hx; rw [yer] at this; cases this
   ·exact q
theorem sort_pw (ss : List (List UInt8)) : (ss.mergeSort fun x y => decide (x ≤ y)).Pairwise (fun a b => Op.bytesLess b a = false) := by
 have := List.pairwise_mergeSort (le := fun x y : List UInt8 => decide (x ≤ y)) ?_ ?_ ss
 ·refine this.imp ?_
  intro a b h
  rw [yhh] at h
  simpa using h
 ·intro a b c h h'
  rw [yhh] at h h' ⊢
  cases e : Op.bytesLess c a with
  |false => rfl
  |true =>
   simp at h h'
   have hab : Op.bytesLess a b = true ∨ a = b := by
    cases e2 : Op.bytesLess a b with
    |true => exact .inl rfl
    |false => exact .inr (yrw _ _ e2 h)
   rcases hab with hab | rfl
   ·rw [yht _ _ _ e hab] at h'; cases h'
   ·rw [e] at h'; cases h'
 ·intro a b
  rw [yhh, yhh]
  cases e : Op.bytesLess b a with
  |false => rfl
  |true =>
   cases e2 : Op.bytesLess a b with
   |false => rfl
   |true =>
    have := yht _ _ _ e e2
    rw [yer] at this
    cases this
def insK (p : ByteArray) (l : List ByteArray) : List ByteArray := l.filter (fun x => slt x p) ++ p :: l.filter (fun x => slt p x)
def ybq (a b : List ByteArray) : List ByteArray := b.foldl (fun acc p => insK p acc) a
theorem mem_insK {p x : ByteArray} {l : List ByteArray} : x ∈ insK p l ↔ x = p ∨ x ∈ l := by
 unfold insK
 simp only [List.mem_append, List.mem_cons, List.mem_filter]
 constructor
 ·rintro (⟨h, _⟩ | rfl | ⟨h, _⟩)
  ·exact .inr h
  ·exact .inl rfl
  ·exact .inr h
 ·rintro (rfl | h)
  ·exact .inr (.inl rfl)
  ·cases h1 : slt x p with
   |true => exact .inl ⟨h, rfl⟩
   |false =>
    cases h2 : slt p x with
    |true => exact .inr (.inr ⟨h, rfl⟩)
    |false => exact .inr (.inl (yrk h1 h2))
def yby (l : List ByteArray) : Prop := l.Pairwise (fun a b => slt a b = true)
theorem ywc {p : ByteArray} {l : List ByteArray} (h : yby l) : yby (insK p l) := by
 unfold insK yby at *
 refine List.pairwise_append.2 ⟨h.filter _, List.pairwise_cons.2 ⟨fun x hx => (List.mem_filter.1 hx).2, h.filter _⟩, fun a ha b hb => ?_⟩
 have ha' := (List.mem_filter.1 ha).2
 rcases List.mem_cons.1 hb with rfl | hb
 ·exact ha'
 ·exact ygc ha' (List.mem_filter.1 hb).2
theorem ydu (b : List ByteArray) : ∀ a, yby a → yby (ybq a b) ∧ ∀ x, x ∈ ybq a b ↔ x ∈ a ∨ x ∈ b := by
 induction b with
 |nil => intro a h; exact ⟨h, by simp [ybq]⟩
 |cons p b ih =>
  intro a h
  obtain ⟨i1, i2⟩ := ih (insK p a) (ywc h)
  refine ⟨i1, fun x => ?_⟩
  show x ∈ ybq (insK p a) b ↔ _
  rw [i2, mem_insK, List.mem_cons]
  constructor
  ·rintro ((h | h) | h)
   ·exact .inr (.inl h)
   ·exact .inl h
   ·exact .inr (.inr h)
  ·rintro (h | h | h)
   ·exact .inl (.inr h)
   ·exact .inl (.inl h)
   ·exact .inr h
theorem slt_lst (a b : ByteArray) : slt a b = Op.bytesLess (lst a) (lst b) := by
 unfold slt lst
 rw [ByteArray.toList_eq, ByteArray.toList_eq]
theorem ypz (l a b : List ByteArray) (ha : yby a) (hp : l.Perm (a ++ b)) : Lib.compact ((l.map lst).mergeSort fun x y => decide (x ≤ y)) = (ybq a b).map lst := by
 obtain ⟨h1, h2⟩ := yod _ (sort_pw (l.map lst))
 obtain ⟨u1, u2⟩ := ydu b a ha
 refine yph _ _ h1 ?_ fun x => ?_
 ·rw [List.pairwise_map]
  exact u1.imp fun h => by rw [← slt_lst]; exact h
 ·rw [h2, List.mem_mergeSort]
  simp only [List.mem_map]
  constructor
  ·rintro ⟨y, hy, rfl⟩
   exact ⟨y, (u2 y).2 (List.mem_append.1 (hp.mem_iff.1 hy)), rfl⟩
  ·rintro ⟨y, hy, rfl⟩
   exact ⟨y, hp.mem_iff.2 (List.mem_append.2 ((u2 y).1 hy)), rfl⟩
open Go.RowKit Go.Maps Go.Sort
theorem ysy {l B c c' : List ByteArray} {x : ByteArray} (h : l.Perm (B ++ c)) (hs : c'.Perm (x :: c)) : (l ++ [x]).Perm (B ++ c') :=
 ((List.perm_append_comm).trans (List.Perm.cons x h)).trans (((List.perm_middle (a := x) (l₁ := B) (l₂ := c)).symm).trans (List.Perm.append_left B hs.symm))
theorem yin (g : Nat) (e : TypeId) : ∀ (ys : List Value) (o : Nat) (w : World) (cur : Array Value), w.heap[g]? = some (.cells cur e (0, 0)) → o + ys.length ≤ cur.size →
  ∃ cur', (w.setCells g o ys).heap[g]? = some (.cells cur' e (0, 0)) ∧ cur'.size = cur.size ∧ ∀ i, i < o + ys.length → cur'[i]? = if i < o then cur[i]? else ys[i - o]?
 |[], o, w, cur, h, _ => ⟨cur, h, rfl, fun i hi => by simp at hi; rw [if_pos hi]⟩
 |y :: ys, o, w, cur, h, hl => by
  have h1 := heap_setCell_same w g o _ _ y h
  obtain ⟨cur', e1, e2, e3⟩ := yin g e ys (o + 1) (w.setCell ⟨g, o, none⟩ y) _ h1 (by simp at hl ⊢; omega)
  refine ⟨cur', e1, e2.trans (by simp), fun i hi => ?_⟩
  rw [e3 i (by simp at hi ⊢; omega)]
  by_cases h2 : i < o
  ·rw [if_pos (by omega), if_pos h2, Array.getElem?_setIfInBounds_ne (by omega)]
  ·rw [if_neg h2]
   by_cases h3 : i = o
   ·subst h3
    rw [if_pos (by omega), Array.getElem?_setIfInBounds_self_of_lt (by simp at hl; omega)]
    simp
   ·rw [if_neg (by omega), show i - o = (i - (o + 1)) + 1 by omega, List.getElem?_cons_succ]
theorem yvn {w : World} {base g n cap : Nat} {e : TypeId} {xs : List Value} (h : w.ownsRow base e 1 (.slice (some ⟨g, 0, none⟩) n cap) n xs) (ys : List Value) (hy : ys.length = n) (m : Nat) (hm : m ≤ n) :
  (w.setCells g 0 ys).ownsRow base e 1 (.slice (some ⟨g, 0, none⟩) m cap) m (ys.take m) := by
 rcases h.2 with ⟨q, _⟩ | ⟨g', cap', cur, q, hb, hg, h1, h2, h3, h4⟩
 ·cases q
 ·cases q
  obtain ⟨cur', e1, e2, e3⟩ := yin g e ys 0 w cur hg (by rw [h3]; omega)
  refine ⟨by simp [hy]; omega, .inr ⟨g, cap, cur', rfl, hb, e1, by omega, h2, e2.trans h3, ?_⟩⟩
  apply List.ext_getElem?
  intro i
  rw [List.getElem?_take, List.getElem?_take, Nat.mul_one]
  by_cases hi : i < m
  ·rw [if_pos hi, if_pos hi, Array.getElem?_toList, e3 i (by omega), if_neg (by omega)]
   rfl
  ·rw [if_neg hi, if_neg hi]
theorem yvr (rb s : Nat) (cm : Nat → Int) (mb : Nat) (E : yat) (rb' s' : Nat) (cm' : Nat → Int) (mb' : Nat) (E' : yat) (g : Nat) (w : World) (h : Rg w rb s cm mb E) (h' : Rg w rb' s' cm' mb' E') (hg : w.cell? ⟨g, 0, none⟩ = some (.pointer (some ⟨rb, 0, none⟩))) (hg' : w.cell? ⟨g, 1, none⟩ = some (.pointer (some ⟨rb', 0, none⟩))) (hgl : g < w.heap.size) :
  Calls Tryz.prog 122 #[.slice (some ⟨g, 0, none⟩) 2 2] w fun e w' => ∃ v, e = .returned v ∧ w'.ownsRow w.heap.size 9 1 v (ybq (E.map (·.1)) (E'.map (·.1))).length (svs (ybq (E.map (·.1)) (E'.map (·.1)))) ∧ Below w.heap.size w w' := by
 have HR := yac h
 have HR' := yac h'
 have hE := h.ris
 have hE' := h'.ris
 have hl := h.len
 have hl' := h'.len
 clear h h'
 go_enter Tryz.func122, Tryz.ntmps122
 go_wp2
 go_loopw [3, 9] (fun pv iv wr => ∃ i : Nat, i ≤ 2 ∧ iv = .int .i64 i ∧ (∃ l : List ByteArray, wr.ownsRow w.heap.size 9 1 pv l.length (svs l) ∧ l.Perm (if i = 0 then [] else if i = 1 then E.map (·.1) else E.map (·.1) ++ E'.map (·.1))) ∧ Hid (Below w.heap.size w wr)) (fun _ iv _ => 2 - (intOf iv).toNat)
 case atStart => exact ⟨0, by omega, rfl, ⟨[], World.ownsRow_nil _ _ _ _, List.Perm.refl _⟩, Below.refl _ _⟩
 case round =>
  obtain ⟨i, hi, rfl, ⟨l0, hrow0, hperm0⟩, hb0⟩ := hrel
  match i, hi with
  |0, _ =>
   rw [if_pos rfl] at hperm0
   have g0 : wr.cell? ⟨g, 0, none⟩ = some (.pointer (some ⟨rb, 0, none⟩)) := (hb0.out.cell (p := ⟨g, 0, none⟩) hgl).trans hg
   have RW := HR.out.below hb0.out
   have c7 := RW.rep.c7
   have hown := RW.own
   have hml : mb < w.heap.size := HR.out.own.lt
   clear RW
   go_wp2_with (first
    |(at_range; refine wpList_range_own _ rfl _ 184 rfl 9 197 lawS Tryz.underlying184 _ mb E.length _ rfl hown ?_; intro w0 hrg0 hg0 hs0)
    |go_in)
   go_frame
   have hb1 : Hid (Below w.heap.size w w0) := hb0.out.grown hg0 hb0.out.size (fun j hj => by cases hj)
   have hrow1 := yac (hrow0.kept hg0 (by cases hq : (Value.ownBlock _ : Option Nat) with | none => exact .inl rfl | some k => exact .inr (by simp)))
   have hwz := hb0.out.size
   clear hrow0 hb0 hown
   generalize hzz : wr.heap.size = z at *
   go_loopw [3] (fun v wr2 => ∃ (left : Lit → Bool) (cnt : Nat), wr2.ranges Tryz.prog 9 yaq mb z E.length (ybt E) left cnt ∧ (∃ l : List ByteArray, wr2.ownsRow w.heap.size 9 1 v l.length (svs l) ∧ l.Perm (([] : List ByteArray) ++ come left E)) ∧ Hid (Below w.heap.size w wr2)) (fun _ wr2 => wr2.rangeLeft mb z)
   case atStart => exact ⟨_, _, hrg0, ⟨l0, hrow1.out, by rw [ykf, List.append_nil]; exact hperm0⟩, hb1⟩
   case round =>
    obtain ⟨left, cnt, hrg, ⟨l, hrow, hperm⟩, hbw⟩ := hrel
    clear hrg0 hrow1 hb1
    go_wp2_with (first
     |(at_next; refine wpList_next_ranges _ rfl _ rfl 9 lawS yaq Value.string yae (fun key kl h => Maps.keyOf_string_inv Tryz.underlying9 h) recInv mb z E.length (ybt E) left cnt rfl hrg ?_ ?_)
     |go_in)
    ·intro hc0 hl0
     rw [ypy hl0] at hperm
     go_wp2
     go_roundw
     case rel => exact ⟨1, by omega, by go_num, ⟨l, hrow, by simpa using hperm⟩, hbw⟩
     case measure => simp [intOf]
    ·intro x R kl yd yp w1 cnt1 hkey hlk hv hat hrg1 hltm hg1 hs1 hen
     obtain ⟨rfl, _⟩ := key_of hkey
     obtain ⟨R', hm, hd⟩ := rec_at hat
     have LS := yac (ymh hE hm hlk)
     have hll : l.length ≤ E.length + 0 := by rw [hperm.length_eq, List.length_append]; have := yuq left E; simp; omega
     have HB1 : Hid (Below w.heap.size w w1) := hbw.out.grown hg1 hbw.out.size (fun j hj => by cases hj; exact hwz)
     have NI := yac (row_ne_iter hrow hrg)
     have hrow1 := yac (yan (w' := w1) hrow (fun k e => by have := World.ownsRow.lt hrow k e; exact hg1.block k this.2 (fun e' => NI.out (by rw [e, ← e']))))
     have RG := yac hrg
     have RG1 := yac hrg1
     have HP := yac hperm
     clear hkey hat hv hd hm hg1 hrg hrg1 hrow hperm hs1
     simp only [yae] at hen ⊢
     go_wp2_with (at_builtin; refine ypw _ rfl (.tmp 22) (.tmp 24) rfl w.heap.size _ _ _ rfl (hrow1.out.alloc _) w1.heap.size x rfl (by simp) (by omega) (by have := HB1.out.size; simp; omega) ?_; intro g2 c2 w3 ho3 hgr3 hat3 hl3)
     have NI2 := yac (row_ne_iter hrow1.out RG1.out)
     have HB3 := yac (ydb (HB1.out.alloc HB1.out.size _) hgr3 (fun q hq => (World.ownsRow.lt hrow1.out q hq).1))
     have RG3 := yac ((RG1.out.alloc _).kept hgr3 (fun e => by have := (World.ownsRow.lt hrow1.out mb e.symm).1; omega) NI2.out)
     have HRW := yac ho3
     clear hgr3 ho3 hat3
     go_roundw
     case rel => exact ⟨_, _, _, _, _, _, _, _, _, _, ⟨_, cnt1, RG3.out, ⟨l ++ [x], by rw [yeo, List.length_append]; exact HRW.out, ysy HP.out LS.out⟩, HB3⟩, rfl⟩
     case measure => rw [RG3.out.left_eq, RG.out.left_eq]; exact hltm
  |1, _ =>
   rw [if_neg (by omega), if_pos rfl] at hperm0
   have g0 : wr.cell? ⟨g, 1, none⟩ = some (.pointer (some ⟨rb', 0, none⟩)) := (hb0.out.cell (p := ⟨g, 1, none⟩) hgl).trans hg'
   have RW := HR'.out.below hb0.out
   have c7 := RW.rep.c7
   have hown := RW.own
   have hml : mb' < w.heap.size := HR'.out.own.lt
   clear RW
   go_wp2_with (first
    |(at_range; refine wpList_range_own _ rfl _ 184 rfl 9 197 lawS Tryz.underlying184 _ mb' E'.length _ rfl hown ?_; intro w0 hrg0 hg0 hs0)
    |go_in)
   go_frame
   have hb1 : Hid (Below w.heap.size w w0) := hb0.out.grown hg0 hb0.out.size (fun j hj => by cases hj)
   have hrow1 := yac (hrow0.kept hg0 (by cases hq : (Value.ownBlock _ : Option Nat) with | none => exact .inl rfl | some k => exact .inr (by simp)))
   have hwz := hb0.out.size
   clear hrow0 hb0 hown
   generalize hzz : wr.heap.size = z at *
   go_loopw [3] (fun v wr2 => ∃ (left : Lit → Bool) (cnt : Nat), wr2.ranges Tryz.prog 9 yaq mb' z E'.length (ybt E') left cnt ∧ (∃ l : List ByteArray, wr2.ownsRow w.heap.size 9 1 v l.length (svs l) ∧ l.Perm (E.map (·.1) ++ come left E')) ∧ Hid (Below w.heap.size w wr2)) (fun _ wr2 => wr2.rangeLeft mb' z)
   case atStart => exact ⟨_, _, hrg0, ⟨l0, hrow1.out, by rw [ykf, List.append_nil]; exact hperm0⟩, hb1⟩
   case round =>
    obtain ⟨left, cnt, hrg, ⟨l, hrow, hperm⟩, hbw⟩ := hrel
    clear hrg0 hrow1 hb1
    go_wp2_with (first
     |(at_next; refine wpList_next_ranges _ rfl _ rfl 9 lawS yaq Value.string yae (fun key kl h => Maps.keyOf_string_inv Tryz.underlying9 h) recInv mb' z E'.length (ybt E') left cnt rfl hrg ?_ ?_)
     |go_in)
    ·intro hc0 hl0
     rw [ypy hl0] at hperm
     go_wp2
     go_roundw
     case rel => exact ⟨2, by omega, by go_num, ⟨l, hrow, by simpa using hperm⟩, hbw⟩
     case measure => simp [intOf]
    ·intro x R kl yd yp w1 cnt1 hkey hlk hv hat hrg1 hltm hg1 hs1 hen
     obtain ⟨rfl, _⟩ := key_of hkey
     obtain ⟨R', hm, hd⟩ := rec_at hat
     have LS := yac (ymh hE' hm hlk)
     have hll : l.length ≤ E'.length + E.length := by rw [hperm.length_eq, List.length_append]; have := yuq left E'; simp; omega
     have HB1 : Hid (Below w.heap.size w w1) := hbw.out.grown hg1 hbw.out.size (fun j hj => by cases hj; exact hwz)
     have NI := yac (row_ne_iter hrow hrg)
     have hrow1 := yac (yan (w' := w1) hrow (fun k e => by have := World.ownsRow.lt hrow k e; exact hg1.block k this.2 (fun e' => NI.out (by rw [e, ← e']))))
     have RG := yac hrg
     have RG1 := yac hrg1
     have HP := yac hperm
     clear hkey hat hv hd hm hg1 hrg hrg1 hrow hperm hs1
     simp only [yae] at hen ⊢
     go_wp2_with (at_builtin; refine ypw _ rfl (.tmp 22) (.tmp 24) rfl w.heap.size _ _ _ rfl (hrow1.out.alloc _) w1.heap.size x rfl (by simp) (by omega) (by have := HB1.out.size; simp; omega) ?_; intro g2 c2 w3 ho3 hgr3 hat3 hl3)
     have NI2 := yac (row_ne_iter hrow1.out RG1.out)
     have HB3 := yac (ydb (HB1.out.alloc HB1.out.size _) hgr3 (fun q hq => (World.ownsRow.lt hrow1.out q hq).1))
     have RG3 := yac ((RG1.out.alloc _).kept hgr3 (fun e => by have := (World.ownsRow.lt hrow1.out mb' e.symm).1; omega) NI2.out)
     have HRW := yac ho3
     clear hgr3 ho3 hat3
     go_roundw
     case rel => exact ⟨_, _, _, _, _, _, _, _, _, _, ⟨_, cnt1, RG3.out, ⟨l ++ [x], by rw [yeo, List.length_append]; exact HRW.out, ysy HP.out LS.out⟩, HB3⟩, rfl⟩
     case measure => rw [RG3.out.left_eq, RG.out.left_eq]; exact hltm
  |2, _ =>
   rw [if_neg (by omega), if_neg (by omega)] at hperm0
   have hll : l0.length = E.length + E'.length := by rw [hperm0.length_eq, List.length_append, List.length_map, List.length_map]
   have hK : yby (E.map (·.1)) := by
    unfold yby
    rw [List.pairwise_map]
    exact hE
   have CU := yac (ypz l0 _ _ hK hperm0)
   have UL := yac (Lib.compact_length_le ((l0.map lst).mergeSort fun x y => decide (x ≤ y)))
   rw [CU.out, List.length_map, List.length_mergeSort, List.length_map] at UL
   generalize hU0 : ybq (E.map (·.1)) (E'.map (·.1)) = U at *
   have hU := yac hU0
   clear hU0
   rcases hrow0.2 with ⟨rfl, h0⟩ | ⟨g1, cap, cur, rfl, hbase, hb, h1, h2, h3, h4⟩
   ·have eE : E = [] := List.length_eq_zero_iff.1 (by omega)
    have eE' : E' = [] := List.length_eq_zero_iff.1 (by omega)
    subst eE eE'
    have eU : U = [] := hU.out.symm
    subst eU
    go_wp2_with (first
     |(go_at_call 176; refine (Tryz.slices_Sort_string_none none 0 wr).mono ?_; rintro e w5 ⟨rfl, rfl⟩)
     |(go_at_call 177; refine (Tryz.slices_Compact_string_empty none 0 _).mono ?_; rintro e w6 ⟨rfl, rfl⟩))
    go_ret
    exact ⟨_, rfl, World.ownsRow_nil _ _ _ _, hb0.out⟩
   ·have hss : (l0.map lst).length = l0.length := by simp
    have hH : Holds encStr wr g1 0 (l0.map lst).toArray := holds_of_block hb (by rw [hss, ← ynm]; simpa using h4)
    have SC := yac (Tryz.slices_Sort_string g1 0 cap (l0.map lst) wr hH (Array.getElem?_eq_some_iff.1 hb).1 (by rw [hss]; omega))
    rw [hss] at SC
    generalize hT : ((l0.map lst).mergeSort fun x y => decide (x ≤ y)) = TT at *
    have hTl : TT.length = l0.length := by rw [← hT, List.length_mergeSort, hss]
    have SD : Hid (∀ (w5 : World), (∃ nn os, w5 = grow (putRow encStr (Sort.ahead wr nn) g1 0 TT.toArray) os) → w5.ownsRow w.heap.size 9 1 (.slice (some ⟨g1, 0, none⟩) l0.length cap) l0.length (TT.map encStr) ∧ Below w.heap.size w w5) := fun w5 hw5 => by
     obtain ⟨nn, os, rfl⟩ := hw5
     refine ⟨?_, hb0.out.grown (grownBy_sorted _) hb0.out.size (fun j hj => by cases hj; exact hbase)⟩
     have := ownsRow_sorted (n := nn) (os := os) (ss := l0.map lst) (ts := TT) (by rw [hss, hTl]) hbase hb (by rw [hss]; exact h1) h2 h3
     rw [hss] at this
     exact this
    have CC : Hid (∀ (w5 : World), w5.ownsRow w.heap.size 9 1 (.slice (some ⟨g1, 0, none⟩) l0.length cap) l0.length (TT.map encStr) → Calls Tryz.prog 177 #[.slice (some ⟨g1, 0, none⟩) l0.length cap] w5 fun e w' => e = .returned (.slice (some ⟨g1, 0, none⟩) U.length cap) ∧ w'.ownsRow w.heap.size 9 1 (.slice (some ⟨g1, 0, none⟩) U.length cap) U.length (svs U) ∧ Below w.heap.size w5 w') := fun w5 h5 => by
     have sx : Lib.strsOf (fun i => ByteArray.mk (TT.getD i []).toArray) l0.length = TT := by
      unfold Lib.strsOf
      apply List.ext_getElem
      ·simp [hTl]
      ·intro i q1 q2
       simp [ByteArray.toList_eq, List.getD_eq_getElem?_getD, List.getElem?_eq_getElem q2]
     refine (Tryz.slices_Compact_string_cells g1 0 l0.length cap (fun i => ByteArray.mk (TT.getD i []).toArray) w5 (by omega) h1 (fun i hi => ?_) (fun j hj => ?_)).mono ?_
     ·rw [Nat.zero_add, World.ownsRow.cellAt h5 i (by omega), List.getElem?_map, List.getElem?_eq_getElem (by omega)]
      simp [List.getD_eq_getElem?_getD, List.getElem?_eq_getElem (show i < TT.length by omega), encStr]
     ·rw [Nat.zero_add]
      exact h5.frozenAt j
     ·rintro e w' ⟨rfl, q, rfl⟩
      rw [sx, CU.out, List.length_map]
      refine ⟨rfl, ?_, Below.setCells (ydn (Below.refl _ _) q) hbase _ _⟩
      have := yvn (w := w5.drewN q) (h5 : (w5.drewN q).ownsRow _ _ _ _ _ _) ((U.map lst ++ List.replicate (l0.length - U.length) []).map encStr) (by have := UL.out; simp; omega) U.length UL.out
      rw [List.map_append, List.take_left' (by simp)] at this
      rw [List.map_append, ynm]
      exact this
    clear hH hb h4 hrow0 hll hperm0 hss hTl hT CU UL hK
    generalize l0.length = n0 at *
    go_wp2_with (first
     |(go_at_call 176; refine SC.out.mono ?_; rintro e w5 ⟨rfl, hw5⟩; have S5 := yac (SD.out w5 hw5); clear hw5)
     |(go_at_call 177; refine (CC.out _ S5.out.1).mono ?_; rintro e w6 ⟨rfl, ho6, hb6⟩; have O6 := yac ho6; have B6 := yac hb6; clear ho6 hb6))
    go_ret
    refine ⟨_, rfl, ?_, S5.out.2.trans B6.out⟩
    rw [hU.out]
    exact O6.out
theorem yvd : (Tryz.prog.info? 44).map (fun i => (i.zero, i.size, i.bytes)) = some (some (.agg #[.int .i64 0, .string ⟨#[]⟩, .int .i64 0]), 3, 32) := by kernel_rfl
section
variable {ops : Array Oper} {ybo : List Oper} {o : Oper} {a : Act} {Q : Exit → Act → World → Prop} (w : World)
theorem app_change (hgd : o.guard = none) (s x : Operand) (ho : o.op = .call { callee := .builtin .append, args := #[s, x], argTypes := #[37, 37] }) (base : Nat) (v : Value) (n : Nat) (xs : List Value) (hs : a.eval s = v) (hown : w.ownsRow base 44 3 v n xs)
  (k : Nat) (y0 : Int) (y1 : ByteArray) (y2 : Int) (hx : a.eval x = .slice (some ⟨k, 0, none⟩) 1 1)
  (hc : w.heap[k]? = some (.cells #[.int .i64 y0, .string y1, .int .i64 y2] 44)) (hn : n ≤ 1000000000) (hb : base ≤ w.heap.size)
  (h : ∀ g cap w1, w1.ownsRow base 44 3 (.slice (some ⟨g, 0, none⟩) (n + 1) cap) (n + 1) (xs ++ [.int .i64 y0, .string y1, .int .i64 y2]) → w.grownBy w1 v.ownBlock → (v.ownBlock = some g ∨ g = w.heap.size) → g < w1.heap.size → wpList Tryz.prog ops Q ybo (a.put o.dst (.slice (some ⟨g, 0, none⟩) (n + 1) cap)) w1) :
  wpList Tryz.prog ops Q (o :: ybo) a w := by
 obtain ⟨i0, hi, hz0, hz1, hz2⟩ := info_parts yvd
 refine wpList_append_lies w hgd s x 37 ho base 44 i0 _ 3 32 Tryz.underlying37 hi hz0 hz1 hz2 rfl (by decide) v n xs hs hown ⟨k, 0, none⟩ 1 1 _ hx rfl ?_ ?_ (by omega) (by unfold maxLen; omega) (by omega) hb _ rfl h
 ·exact World.news_of_block hc
 ·intro u hu; simp at hu; rcases hu with rfl | rfl | rfl <;> rfl
end
def ygd (s : Nat) (cm : Nat → Int) (E : yat) (s' : Nat) (cm' : Nat → Int) (E' : yat) (acc : yat × List (ByteArray × Int)) (p : ByteArray) : yat × List (ByteArray × Int) :=
 (ybn (yab cm cm') p (yam (yay s cm (yas p E)) (yay s' cm' (yas p E'))).1 acc.1,
  if (yam (yay s cm (yas p E)) (yay s' cm' (yas p E'))).2 = 0 then acc.2 else acc.2 ++ [(p, (yam (yay s cm (yas p E)) (yay s' cm' (yas p E'))).2)])
def ykd (s : Nat) (cm : Nat → Int) (E : yat) (s' : Nat) (cm' : Nat → Int) (E' : yat) : yat × List (ByteArray × Int) :=
 (ybq (E.map (·.1)) (E'.map (·.1))).foldl (ygd s cm E s' cm' E') ([], [])
def chv (s : Nat) (l : List (ByteArray × Int)) : List Value := (l.map fun x => [Value.int .i64 s, .string x.1, .int .i64 x.2]).flatten
theorem chv_app (s : Nat) (l : List (ByteArray × Int)) (p : ByteArray) (z : Int) : chv s (l ++ [(p, z)]) = chv s l ++ [.int .i64 s, .string p, .int .i64 z] := by simp [chv]
theorem take_fold {α β : Type} (f : β → α → β) (b : β) (l : List α) (i : Nat) (x : α) (h : l[i]? = some x) : (l.take (i + 1)).foldl f b = f ((l.take i).foldl f b) x := by
 obtain ⟨hlt, e⟩ := List.getElem?_eq_some_iff.1 h
 rw [List.take_succ_eq_append_getElem hlt, List.foldl_append, e]
 rfl
end Go.Proofs.YtaelaldmibgibaaGreatDoor

namespace Go.Proofs.YtaelaldmibgibaaGreatDoor
open Go.RowKit Go.Maps
theorem yns (b : List ByteArray) : ∀ a, (ybq a b).length ≤ a.length + b.length := by
 induction b with
 |nil => intro a; exact Nat.le_refl _
 |cons p b ih =>
  intro a
  have h1 := ih (insK p a)
  have h2 : (insK p a).length ≤ a.length + 1 := by
   unfold insK
   have : (a.filter (fun x => slt x p)).length + (a.filter (fun x => slt p x)).length ≤ a.length := by
    clear ih h1
    induction a with
    |nil => simp
    |cons y E ih =>
     rw [List.filter_cons, List.filter_cons]
     cases h1 : slt y p <;> cases h2 : slt p y <;> simp <;> first | omega | skip
     exact absurd (ygc h1 h2) (by rw [ybi]; simp)
   simp only [List.length_append, List.length_cons]
   omega
  show (ybq (insK p a) b).length ≤ _
  simp only [List.length_cons]
  omega
structure Pl (w wr : World) (z s : Nat) (cmn : Nat → Int) (U : List ByteArray) (pv cv : Value) (A : yat × List (ByteArray × Int)) : Prop where
 rg : Rg wr (w.heap.size + 1) s cmn w.heap.size A.1
 ch : wr.ownsRow z 44 3 cv A.2.length (chv s A.2)
 pa : wr.ownsRow (w.heap.size + 2) 9 1 pv U.length (svs U)
 plt : ∀ g, pv.ownBlock = some g → g < z
 bel : Below w.heap.size w wr
 zge : w.heap.size + 2 ≤ z
 zle : z ≤ wr.heap.size
 nl : A.2 = [] → cv = .slice none 0 0
section
variable {w wr wr' : World} {z s : Nat} {cmn : Nat → Int} {U : List ByteArray} {pv cv : Value} {A : yat × List (ByteArray × Int)}
theorem Pl.more (h : Pl w wr z s cmn U pv cv A) (hb : Below wr.heap.size wr wr') : Pl w wr' z s cmn U pv cv A :=
 ⟨h.rg.below hb, yan h.ch (fun k e => hb.block k (World.ownsRow.lt h.ch k e).2), yan h.pa (fun k e => hb.block k (World.ownsRow.lt h.pa k e).2), h.plt, h.bel.trans (hb.mono h.bel.size), h.zge, Nat.le_trans h.zle hb.size, h.nl⟩
theorem Pl.alloc (h : Pl w wr z s cmn U pv cv A) (o : Obj) : Pl w (wr.alloc o) z s cmn U pv cv A := h.more ((Below.refl _ _).alloc (Nat.le_refl _) o)
theorem Pl.keep (h : Pl w wr z s cmn U pv cv A) (hA : A.1.length < 999999) {p : ByteArray} (hp : p.size ≤ 1000000000000) {R : Rec} (h0 : 0 ≤ R.bn) (hbr : yfv R) :
  Calls Tryz.prog 112 #[.pointer (some ⟨w.heap.size + 1, 0, none⟩), .string p, yae R] wr fun e w' => e = .returned (.tuple #[]) ∧ Pl w w' z s cmn U pv cv (ybn cmn p R A.1, A.2) := by
 refine (yjn (w.heap.size + 1) s cmn w.heap.size A.1 wr h.rg.rep h.rg.own h.rg.ris (by unfold maxLen; omega) p hp R h0).mono ?_
 rintro e w' ⟨rfl, h1, h2, hf⟩
 refine ⟨rfl, ⟨h1, h2, ybu _ _ _ _ h.rg.ris, fun x hx => ?_, by have := yhg cmn p R A.1; show (ybn cmn p R A.1).length < _; omega, h.rg.c0⟩, ?_, ?_, h.plt, ?_, h.zge, Nat.le_trans h.zle hf.size, h.nl⟩
 ·rcases yfy hx with rfl | hx
  ·exact ⟨h0, hbr⟩
  ·exact h.rg.bn x hx
 ·exact yan h.ch (fun k e => hf.block k (World.ownsRow.lt h.ch k e).2 (by have := (World.ownsRow.lt h.ch k e).1; have := h.zge; omega))
 ·exact yan h.pa (fun k e => hf.block k (World.ownsRow.lt h.pa k e).2 (by have := (World.ownsRow.lt h.pa k e).1; omega))
 ·exact ⟨hf.os.trans h.bel.os, hf.tape.trans h.bel.tape, hf.output.trans h.bel.output, Nat.le_trans h.bel.size hf.size, fun k hk => (hf.block k (by have := h.bel.size; omega) (by omega)).trans (h.bel.block k hk)⟩
theorem Pl.grown (h : Pl w wr z s cmn U pv cv A) {w1 : World} {g cap : Nat} {p : ByteArray} {t : Int} (ho : w1.ownsRow z 44 3 (.slice (some ⟨g, 0, none⟩) (A.2.length + 1) cap) (A.2.length + 1) (chv s A.2 ++ [.int .i64 s, .string p, .int .i64 t])) (hg : wr.grownBy w1 cv.ownBlock) :
  Pl w w1 z s cmn U pv (.slice (some ⟨g, 0, none⟩) (A.2.length + 1) cap) (A.1, A.2 ++ [(p, t)]) := by
 have hne : ∀ k, k < z → some k ≠ cv.ownBlock := fun k hk e => by have := (World.ownsRow.lt h.ch k e.symm).1; omega
 have hz := h.zge
 have hzl := h.zle
 refine ⟨h.rg.keep (hg.block _ h.rg.rep.lt (hne _ (by omega))) (hg.block _ h.rg.own.lt (hne _ (by omega))), ?_, yan h.pa (fun k e => hg.block k (World.ownsRow.lt h.pa k e).2 (hne _ (h.plt k e))), h.plt, ?_, hz, ?_, fun e => by simp at e⟩
 ·rw [chv_app, List.length_append]
  exact ho
 ·exact ydb h.bel hg (fun k hk => by have := (World.ownsRow.lt h.ch k hk).1; omega)
 ·exact Nat.le_trans hzl hg.size
theorem Pl.at (h : Pl w wr z s cmn U pv cv A) {g cap i : Nat} {p : ByteArray} (e : pv = .slice (some ⟨g, 0, none⟩) U.length cap) (hi : U[i]? = some p) : wr.cell? ⟨g, i, none⟩ = some (.string p) := by
 have q := h.pa
 rw [e] at q
 rw [World.ownsRow.cellAt q i (by have := (List.getElem?_eq_some_iff.1 hi).1; omega)]
 simp [svs, hi]
theorem Pl.some (h : Pl w wr z s cmn U pv cv A) {pa : Option Addr} {pc : Nat} (e : pv = .slice pa U.length pc) {i : Nat} (hi : i < U.length) : ∃ g, pa = some ⟨g, 0, none⟩ := by
 have q := h.pa.2
 rcases q with ⟨q, h0⟩ | ⟨g, cap, cur, q, _⟩
 ·omega
 ·rw [e] at q
  cases q
  exact ⟨g, rfl⟩
end
theorem ypt (s : Nat) (cm : Nat → Int) (E : yat) (s' : Nat) (cm' : Nat → Int) (E' : yat) (U : List ByteArray) : ∀ (A : yat × List (ByteArray × Int)), (U.foldl (ygd s cm E s' cm' E') A).1.length ≤ A.1.length + U.length ∧ (U.foldl (ygd s cm E s' cm' E') A).2.length ≤ A.2.length + U.length := by
 induction U with
 |nil => intro A; exact ⟨Nat.le_refl _, Nat.le_refl _⟩
 |cons p U ih =>
  intro A
  have h := ih (ygd s cm E s' cm' E' A p)
  have h1 : (ygd s cm E s' cm' E' A p).1.length ≤ A.1.length + 1 := yhg _ _ _ _
  have h2 : (ygd s cm E s' cm' E' A p).2.length ≤ A.2.length + 1 := by
   unfold ygd
   split <;> simp
  simp only [List.foldl_cons, List.length_cons]
  omega
end Go.Proofs.YtaelaldmibgibaaGreatDoor
