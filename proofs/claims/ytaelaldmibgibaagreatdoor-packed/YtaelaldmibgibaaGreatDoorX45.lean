/- The program's linesOf, Seal, Pack. -/
import Derived.Test.YtaelaldmibgibaaGreatDoorX44
import Derived.Test.YtaelaldmibgibaaGreatDoorX39

set_option linter.all false
set_option maxHeartbeats 1000000
set_option maxRecDepth 100000

namespace Go.Proofs.K
open Go.RowKit Go.Lib Go.Maps
theorem app_row {ops : Array Oper} {rest : List Oper} {o : Oper} {a : Act} {Q : Exit → Act → World → Prop} (w : World) (hgd : o.guard = none) (s x : Operand) (ho : o.op = .call { callee := .builtin .append, args := #[s, x], argTypes := #[25, 25] }) (base : Nat) (v : Value) (n : Nat) (xs : List Value) (hs : a.eval s = v) (hown : w.ownsRow base 9 1 v n xs)
  (g2 m c2 base2 : Nat) (L : List ByteArray) (hL : L.length = m) (hm : 0 < m) (hx : a.eval x = .slice (some ⟨g2, 0, none⟩) m c2) (h2 : w.ownsRow base2 9 1 (.slice (some ⟨g2, 0, none⟩) m c2) m (svs L)) (hn : n + m ≤ 1000000000) (hb : base ≤ w.heap.size)
  (h : ∀ g cap w1, w1.ownsRow base 9 1 (.slice (some ⟨g, 0, none⟩) (n + m) cap) (n + m) (xs ++ svs L) → w.grownBy w1 v.ownBlock → (v.ownBlock = some g ∨ g = w.heap.size) → g < w1.heap.size → wpList Tryz.prog ops Q rest (a.put o.dst (.slice (some ⟨g, 0, none⟩) (n + m) cap)) w1) :
  wpList Tryz.prog ops Q (o :: rest) a w := by
 obtain ⟨i0, hi, hz0, hz1, hz2⟩ := info_parts yku
 refine wpList_append_lies w hgd s x 25 ho base 9 i0 _ 1 16 Tryz.underlying25 hi hz0 hz1 hz2 rfl (by decide) v n xs hs hown ⟨g2, 0, none⟩ m c2 (svs L) hx (by rw [svs_length, hL]; omega) (h2.cells rfl) ?_ hm (by unfold maxLen; omega) (by omega) hb _ rfl h
 intro u hu
 obtain ⟨z, _, rfl⟩ := List.mem_map.1 hu
 rfl
def ynu (m : List DR) (i : Nat) : List Bs := (bs yao ++ decDigits m.length) :: ((m.take i).map ybz).flatten
theorem ypu (m : List DR) (i : Nat) (d : DR) (hd : m[i]? = some d) : ynu m (i + 1) = ynu m i ++ ybz d := by
 unfold ynu
 rw [List.take_add_one, hd, Option.toList_some, List.map_append, List.flatten_append]
 simp
theorem preN_all (m : List DR) : ynu m m.length = ydw m := by
 unfold ynu ydw
 rw [List.take_length]
structure NL (w wr : World) (lv : Value) (m : List DR) (i : Nat) : Prop where
 bel : Below w.heap.size w wr
 own : wr.ownsRow w.heap.size 9 1 lv (ynu m i).length (svs ((ynu m i).map yaf))
theorem NL.more {w wr w2 : World} {lv : Value} {m : List DR} {i : Nat} (h : NL w wr lv m i) (hb : Below wr.heap.size wr w2) : NL w w2 lv m i :=
 ⟨h.bel.trans (hb.mono h.bel.size), yas h.own (fun k e => hb.block k (World.ownsRow.lt h.own k e).2)⟩
theorem preN_lenK (K : Nat) (m : List DR) (hr : ∀ d ∈ m, d.recs.length + 1 ≤ K) : ∀ i, (ynu m i).length ≤ 1 + i * K := by
 intro i
 induction i with
 |zero => simp [ynu]
 |succ i ih =>
  have hk : (i + 1) * K = i * K + K := Nat.succ_mul i K
  cases hd : m[i]? with
  |none =>
   have e : ynu m (i + 1) = ynu m i := by unfold ynu; rw [List.take_add_one, hd]; simp
   rw [e, hk]
   omega
  |some d =>
   rw [ypu m i d hd, List.length_append, hk]
   have h2 := hr d (List.mem_of_getElem? hd)
   have h3 : (ybz d).length = d.recs.length + 1 := by unfold ybz; simp
   omega
theorem preN_len (m : List DR) (hr : ∀ d ∈ m, d.recs.length ≤ 10000000) (i : Nat) (_ : i ≤ 6) : (ynu m i).length ≤ 1 + i * 10000001 := preN_lenK 10000001 m (fun d hd => by have := hr d hd; omega) i
theorem Seal_any (s : ByteArray) (hs : s.size ≤ 1000000000000) (w : World) (hg : yez w) :
  Calls Tryz.prog 37 #[.string s] w fun e w' => e = .returned (.string (yaf (bs s ++ yfa (bs s)))) ∧ Below w.heap.size w w' := by
 have SL := yab (yqk s hs w hg)
 have hl : (yaf (yfa (bs s))).size ≤ 1000000 := by
  rw [yal]
  unfold yfa
  have h1 : sumL (bs s) < 1000003 := by rw [sumL_bs]; exact yme s _
  have h2 := yda 10 (sumL (bs s)) (Nat.lt_of_lt_of_le h1 (by decide))
  have h3 : (bs sumW).length = 4 := rfl
  simp only [List.length_append, List.length_cons, List.length_nil, h3]
  omega
 have HL : Hid (yaf (bs s ++ yfa (bs s)) = s ++ yaf (yfa (bs s))) := by
  unfold Hid
  apply ygw
  rw [yah, ybv, yah]
 rw [HL.out]
 generalize yaf (yfa (bs s)) = l at *
 have n1 : ¬ 9223372036854775807 < s.size + l.size := by omega
 clear hg HL
 go_enter Tryz.func37, Tryz.ntmps37
 go_wp2_with (go_at_call 68; refine SL.out.mono ?_; rintro e w1 ⟨rfl, hb1⟩)
 go_ret
 exact ⟨rfl, hb1⟩
theorem yov (l : List Bs) : (l.map yaf).map bs = l := by
 rw [List.map_map]
 conv => rhs; rw [← List.map_id l]
 apply List.map_congr_left
 intro x _
 exact yah x
variable {nb pb : Nat} {L : List (Nat × Nat)} {S : List RS}
structure Tell (i : Nat) (s : RS) (d : DR) : Prop where
 com : lfn d.com = s.cm
 keys : s.E.map (·.1) = d.recs.map (·.1)
 recs : ∀ y ∈ d.recs, ybk i s.cm (ybh y.1 s.E) = ybl y.2
 born : ∀ y ∈ d.recs, y.2.born
structure Tells (S : List RS) (m : List DR) : Prop where
 len : S.length = m.length
 at_ : ∀ (i : Nat) s d, S[i]? = some s → m[i]? = some d → Tell i s d
theorem LinesG_form (rb s mb : Nat) (E : yau) (d : DR) (n : Nat) (h1 : 1 ≤ n) (h6 : n ≤ 6) (hd : d.ok n) (hE : E.map (·.1) = d.recs.map (·.1)) (hRR : ∀ y ∈ d.recs, ybk s (lfn d.com) (ybh y.1 E) = ybl y.2) (hgd : ∀ y ∈ d.recs, y.2.born) (hlen : d.recs.length < 100000000) (w : World) (h : Rp w rb s (lfn d.com) mb E) (hg : yez w) :
  Calls Tryz.prog 73 #[.pointer (some ⟨rb, 0, none⟩), .int .i64 n] w fun e w' => ∃ g cap, e = .returned (.slice (some ⟨g, 0, none⟩) (d.recs.length + 1) cap) ∧ w'.ownsRow w.heap.size 9 1 (.slice (some ⟨g, 0, none⟩) (d.recs.length + 1) cap) (d.recs.length + 1) (svs ((ybz d).map yaf)) ∧ Below w.heap.size w w' := by
 refine (LinesG_any rb s mb E d n h1 h6 hd hE hRR hgd hlen w h hg).mono ?_
 rintro e w' ⟨v, rfl, ho, hb⟩
 obtain ⟨g, cap, rfl, _⟩ := World.ownsRow.form ho (by omega)
 exact ⟨g, cap, rfl, ho, hb⟩
theorem nlines_any (m : List DR) (w : World) (h : Nt w nb pb L S) (hm : okNet m) (hgn : Tells S m) (hr : ∀ d ∈ m, d.recs.length ≤ 10000000) (hg : yez w) :
  Calls Tryz.prog 39 #[.pointer (some ⟨nb, 0, none⟩)] w fun e w' => ∃ v, e = .returned v ∧ w'.ownsRow w.heap.size 9 1 v (ydw m).length (svs ((ydw m).map yaf)) ∧ Below w.heap.size w w' := by
 obtain ⟨cap, hb⟩ := h.net.blk
 rw [hgn.len] at hb
 have n1 := hm.n1
 have n6 := hm.n6
 have HC : Hid (∀ V, Below w.heap.size w V → V.cell? ⟨nb, 0, none⟩ = some (.slice (some ⟨pb, 0, none⟩) m.length cap)) := fun V hV => by
  rw [hV.cell (p := ⟨nb, 0, none⟩) h.nlt]
  simp [World.cell?, hb]
 have c0 := HC.out w (Below.refl _ _)
 have IT := yab (yof m.length (by omega) w hg)
 have E0 : Hid ((⟨#[114, 101, 117, 110, 105, 111, 110, 32]⟩ : ByteArray) ++ yaf (decDigits m.length) = yaf (bs yao ++ decDigits m.length)) := by
  unfold Hid
  apply ygw
  rw [ybv, yah, yah]
  rfl
 have s0 : (yaf (decDigits m.length)).size ≤ 1000 := by rw [yal]; have := yda 10 m.length (Nat.lt_of_le_of_lt n6 (by decide)); omega
 have ST : Hid (∀ (w1 : World) (s1 : ByteArray), Below w.heap.size w w1 → s1 = yaf (bs yao ++ decDigits m.length) → NL w (w1.alloc (.cells #[.string s1] 9)) (.slice (some ⟨w1.heap.size, 0, none⟩) 1 1) m 0) := fun w1 s1 hb1 hs => ⟨hb1.alloc hb1.size _, by
  have : (ynu m 0).map yaf = [s1] := by rw [hs]; rfl
  rw [this]
  exact World.ownsRow_lit w1 #[.string s1] 1 hb1.size (by unfold maxLen; omega) rfl⟩
 have LN : Hid (∀ W, Below w.heap.size w W → ∀ i, i < m.length → ∃ rb d, m[i]? = some d ∧ W.cell? ⟨pb, i, none⟩ = some (.pointer (some ⟨rb, 0, none⟩)) ∧ Calls Tryz.prog 73 #[.pointer (some ⟨rb, 0, none⟩), .int .i64 m.length] W fun e w' => ∃ g cap, e = .returned (.slice (some ⟨g, 0, none⟩) (d.recs.length + 1) cap) ∧ w'.ownsRow W.heap.size 9 1 (.slice (some ⟨g, 0, none⟩) (d.recs.length + 1) cap) (d.recs.length + 1) (svs ((ybz d).map yaf)) ∧ Below W.heap.size W w') := fun W hW i hi => by
  have hi2 : i < S.length := by rw [hgn.len]; exact hi
  have hi3 : i < L.length := by rw [h.len]; exact hi2
  have a1 : m[i]? = some m[i] := List.getElem?_eq_getElem hi
  have aS : S[i]? = some S[i] := List.getElem?_eq_getElem hi2
  have aL : L[i]? = some L[i] := List.getElem?_eq_getElem hi3
  have hdm := List.mem_of_getElem? a1
  have q := hgn.at_ i _ _ aS a1
  have hR := (h.below hW).rep i _ _ aL aS
  refine ⟨(L[i]).1, m[i], a1, (h.below hW).net.row i _ (by rw [List.getElem?_map, aL]; rfl), ?_⟩
  rw [← q.com] at hR
  exact LinesG_form _ i _ _ _ _ n1 n6 (hm.oks _ hdm) q.keys (by rw [q.com]; exact q.recs) q.born (by have := hr _ hdm; omega) W ⟨hR.rep, hR.own, hR.ris⟩ (hg.below hW)
 have PL := yab (preN_len m hr)
 have HR := yab hr
 generalize hn : m.length = n at *
 generalize yaf (decDigits n) = dd at *
 have q1 : ¬ 9223372036854775807 < 8 + dd.size := by omega
 clear h hb hm hgn hr hg
 go_enter Tryz.func39, Tryz.ntmps39
 go_wp2_with (go_at_call 72; refine IT.out.mono ?_; rintro e w1 ⟨rfl, hb1⟩; have c1 := HC.out w1 hb1; have N1 := yab (ST.out w1 _ hb1 E0.out); have c2 := HC.out _ N1.out.bel; clear hb1)
 clear c0 q1 s0
 go_loopw [4, 21] (fun lv iv wr => ∃ i : Nat, i ≤ n ∧ iv = .int .i64 i ∧ Hid (NL w wr lv m i)) (fun _ iv _ => n - (Go.RowKit.intOf iv).toNat)
 case atStart => exact ⟨0, Nat.zero_le _, rfl, N1⟩
 case round =>
  clear N1 c1 c2 IT E0 ST
  obtain ⟨i, hi, rfl, hN⟩ := hrel
  by_cases hlt : i < n
  ·obtain ⟨rb, d, hd, hc, hL⟩ := LN.out wr hN.out.bel i hlt
   have LL := yab hL
   have hdl : d.recs.length ≤ 10000000 := HR.out d (List.mem_of_getElem? hd)
   have hpl := PL.out i (by omega)
   have NX : Hid (∀ (w3 : World) (g cap' : Nat), w3.ownsRow w.heap.size 9 1 (.slice (some ⟨g, 0, none⟩) ((ynu m i).length + (d.recs.length + 1)) cap') ((ynu m i).length + (d.recs.length + 1)) (svs ((ynu m i).map yaf) ++ svs ((ybz d).map yaf)) → Below w.heap.size w w3 → NL w w3 (.slice (some ⟨g, 0, none⟩) ((ynu m i).length + (d.recs.length + 1)) cap') m (i + 1)) := fun w3 g cap' ho hb3 => ⟨hb3, by
    have e1 : (ynu m (i + 1)).length = (ynu m i).length + (d.recs.length + 1) := by rw [ypu m i d hd, List.length_append]; unfold ybz; simp
    have e2 : svs ((ynu m (i + 1)).map yaf) = svs ((ynu m i).map yaf) ++ svs ((ybz d).map yaf) := by rw [ypu m i d hd, List.map_append, yke]
    rw [e1, e2]
    exact ho⟩
   have hll : ((ybz d).map yaf).length = d.recs.length + 1 := by unfold ybz; simp
   have BG : Hid (∀ w2 w3 : World, NL w w2 u4 m i → w2.grownBy w3 u4.ownBlock → Below w.heap.size w w3) := fun w2 w3 hn2 hg3 => yfx hn2.bel hg3 (fun k hk => (World.ownsRow.lt hn2.own k hk).1)
   have OW : Hid (∀ w2 : World, NL w w2 u4 m i → w2.ownsRow w.heap.size 9 1 u4 (ynu m i).length (svs ((ynu m i).map yaf))) := fun w2 hn2 => hn2.own
   generalize (ynu m i).length = pl at *
   generalize (ybz d).map yaf = ls at *
   generalize d.recs.length = dl at *
   clear hL hd
   go_wp2_with (first
    |(go_at_call 73; refine LL.out.mono ?_; rintro e w2 ⟨g2, c2, rfl, ho2, hb2⟩; have N2 := yab (hN.out.more hb2); have O2 := yab ho2; clear ho2 hb2)
    |(at_builtin; refine app_row _ rfl (.tmp 25) (.tmp 28) rfl w.heap.size u4 pl _ rfl (OW.out w2 N2.out) g2 (dl + 1) c2 wr.heap.size ls hll (by omega) rfl O2.out (by omega) (by have := N2.out.bel.size; omega) ?_; intro g3 c3 w3 ho3 hgr3 hat3 hl3; have N3 := yab (NX.out w3 g3 c3 ho3 (BG.out w2 w3 N2.out hgr3)); clear ho3 hgr3 hat3 hl3))
   go_roundw
   case rel => exact ⟨i + 1, by omega, by go_num, N3⟩
   case measure => simp [Go.RowKit.intOf]; omega
  ·have ei : i = n := by omega
   subst ei
   have EL : Hid (ynu m i = ydw m) := by unfold Hid; rw [← hn]; exact preN_all m
   go_wp2
   go_ret
   refine ⟨_, rfl, ?_, hN.out.bel⟩
   rw [← EL.out]
   exact hN.out.own
theorem yxe (m : List DR) (w : World) (h : Nt w nb pb L S) (hm : okNet m) (hgn : Tells S m) (hr : ∀ d ∈ m, d.recs.length ≤ 10000000) (hsz : (ydz m).length ≤ 10000000) (hg : yez w) :
  Calls Tryz.prog 18 #[.pointer (some ⟨nb, 0, none⟩)] w fun e w' => e = .returned (.string (yaf (yga m))) ∧ Below w.heap.size w w' := by
 have hnet := h.net
 rw [hgn.len] at hnet
 have HS := yab (has_any nb m.length pb _ 0 w hnet)
 have n1 := hm.n1
 rw [decide_eq_true (by omega : (0 : Int) ≤ 0 ∧ (0 : Int) < (m.length : Int))] at HS
 have LO := yab (nlines_any m w h hm hgn hr hg)
 have hT := linesN_T m
 have hlen : (ydw m).length ≤ 100000000 := by
  rw [← preN_all m]
  have := preN_len m hr m.length hm.n6
  have := hm.n6
  omega
 have JN : Hid (∀ (W : World) (v : Value), W.ownsRow w.heap.size 9 1 v (ydw m).length (svs ((ydw m).map yaf)) → Calls Tryz.prog 38 #[v, .string ⟨#[10]⟩] W fun e w' => e = .returned (.string (yaf (ybu 10 (ydw m)))) ∧ Below W.heap.size W w') := fun W v ho => by
  have hl : ((ydw m).map yaf).length = (ydw m).length := List.length_map _
  rw [← hl] at ho
  have hs : (ybu 10 (ydw m)).length ≤ 10000000 := by have := congrArg List.length hT; simp at this; omega
  have := join_row 10 w.heap.size v ((ydw m).map yaf) W ho (by rw [hl]; exact hlen) (by rw [yov]; omega)
  rw [yov] at this
  exact this
 have EB : Hid (yaf (ybu 10 (ydw m)) ++ (⟨#[10]⟩ : ByteArray) = yaf (ydz m)) := by
  unfold Hid
  apply ygw
  rw [ybv, yah, yah, ← hT]
  rfl
 have SE : Hid (∀ W, Below w.heap.size w W → Calls Tryz.prog 37 #[.string (yaf (ydz m))] W fun e w' => e = .returned (.string (yaf (yga m))) ∧ Below W.heap.size W w') := fun W hW => by
  have := Seal_any (yaf (ydz m)) (by rw [yal]; omega) W (hg.below hW)
  rw [yah] at this
  exact this
 have s1 : (yaf (ybu 10 (ydw m))).size ≤ 10000000 := by rw [yal]; have := congrArg List.length hT; simp at this; omega
 rw [← EB.out] at SE
 generalize yaf (ybu 10 (ydw m)) = jn at *
 generalize yaf (yga m) = pk at *
 have q1 : ¬ 9223372036854775807 < jn.size + 1 := by omega
 clear hg EB hT h hm hgn hr hnet
 go_enter Tryz.func18, Tryz.ntmps18
 go_wp2_with (first
  |(go_at_call 36; refine HS.out.mono ?_; rintro e w ⟨rfl, rfl⟩)
  |(go_at_call 39; refine LO.out.mono ?_; rintro e w1 ⟨v, rfl, ho1, hb1⟩; have O1 := yab ho1; have H1 := yab hb1; clear ho1 hb1)
  |(go_at_call 38; refine (JN.out _ _ O1.out).mono ?_; rintro e w2 ⟨rfl, hb2⟩; have H2 := yab (H1.out.trans (hb2.mono H1.out.size)); clear hb2)
  |(go_at_call 37; refine (SE.out _ H2.out).mono ?_; rintro e w3 ⟨rfl, hb3⟩; have H3 := yab (H2.out.trans (hb3.mono H2.out.size)); clear hb3))
 go_ret
 exact ⟨rfl, H3.out⟩
end Go.Proofs.K

namespace Go.Proofs.K
open Go.RowKit
theorem yre (T : List (List UInt8)) (h : T.Pairwise (fun a b => Op.bytesLess b a = false)) :
  (Lib.compact T).Pairwise (fun a b => Op.bytesLess a b = true) ∧ ∀ x, x ∈ Lib.compact T ↔ x ∈ T := by
 have key : ∀ m, m ≤ T.length → (Lib.compactUpTo T.toArray m).Pairwise (fun a b => Op.bytesLess a b = true) ∧ (∀ x, x ∈ Lib.compactUpTo T.toArray m ↔ x ∈ T.take m) := by
  intro m
  induction m with
  |zero => intro _; exact ⟨by simp [Lib.compactUpTo], by simp [Lib.compactUpTo]⟩
  |succ m ih =>
   intro hm
   obtain ⟨i1, i2⟩ := ih (by omega)
   have hlt : m < T.length := by omega
   have hsz : m < T.toArray.size := by simpa using hlt
   have eg : T.toArray[m]! = T[m] := by rw [getElem!_pos T.toArray m hsz]; rfl
   rw [Lib.compactUpTo_succ, List.take_succ_eq_append_getElem hlt]
   by_cases hk : Lib.keeps T.toArray m = true
   ·rw [if_pos hk, eg]
    refine ⟨List.pairwise_append.2 ⟨i1, by simp, ?_⟩, fun x => by simp only [List.mem_append, i2 x]⟩
    intro a ha b hb
    rw [List.mem_singleton] at hb
    subst hb
    have ha' := (i2 a).1 ha
    obtain ⟨j, hj, e⟩ := List.mem_take_iff_getElem.1 ha'
    have hjm : j < m := by omega
    have hle := List.pairwise_iff_getElem.1 h j m (by omega) hlt hjm
    have hle1 : Op.bytesLess T[m] a = false := by rw [← e]; exact hle
    cases hb : Op.bytesLess a T[m] with
    |true => rfl
    |false =>
     exfalso
     have e2 : a = T[m] := ywi _ _ hb hle1
     have hm0 : m ≠ 0 := by omega
     have hne : T.toArray[m]! ≠ T.toArray[m - 1]! := by
      simpa [Lib.keeps, hm0] using hk
     have hp : m - 1 < T.length := by omega
     have ep : T.toArray[m - 1]! = T[m - 1] := by rw [getElem!_pos T.toArray (m - 1) (by simpa using hp)]; rfl
     rw [eg, ep] at hne
     apply hne
     by_cases hj1 : j = m - 1
     ·subst hj1
      rw [← e2, ← e]
     ·have q1 := List.pairwise_iff_getElem.1 h j (m - 1) (by omega) hp (by omega)
      have q2 := List.pairwise_iff_getElem.1 h (m - 1) m hp hlt (by omega)
      refine ywi _ _ q2 ?_
      have : T[j]'(by omega) = T[m] := e.trans e2
      rw [← this]
      exact q1
   ·rw [if_neg hk, List.append_nil]
    refine ⟨i1, fun x => ?_⟩
    rw [i2 x, List.mem_append, List.mem_singleton]
    constructor
    ·exact .inl
    ·rintro (q | rfl)
     ·exact q
     ·have hm0 : m ≠ 0 := by
       rintro rfl
       exact hk (by simp [Lib.keeps])
      have heq : T.toArray[m]! = T.toArray[m - 1]! := by
       simpa [Lib.keeps, hm0] using hk
      have hp : m - 1 < T.length := by omega
      have ep : T.toArray[m - 1]! = T[m - 1] := by rw [getElem!_pos T.toArray (m - 1) (by simpa using hp)]; rfl
      rw [eg, ep] at heq
      rw [heq]
      exact List.mem_take_iff_getElem.2 ⟨m - 1, by omega, rfl⟩
 have := key T.length (Nat.le_refl _)
 rw [List.take_length] at this
 exact this
theorem yst : ∀ (A B : List (List UInt8)), A.Pairwise (fun a b => Op.bytesLess a b = true) → B.Pairwise (fun a b => Op.bytesLess a b = true) → (∀ x, x ∈ A ↔ x ∈ B) → A = B
 |[], [], _, _, _ => rfl
 |[], b :: B, _, _, h => absurd ((h b).2 (by simp)) (by simp)
 |a :: A, [], _, _, h => absurd ((h a).1 (by simp)) (by simp)
 |a :: A, b :: B, hA, hB, h => by
  obtain ⟨a1, a2⟩ := List.pairwise_cons.1 hA
  obtain ⟨b1, b2⟩ := List.pairwise_cons.1 hB
  have e : a = b := by
   rcases List.mem_cons.1 ((h a).1 (by simp)) with q | q
   ·exact q
   ·rcases List.mem_cons.1 ((h b).2 (by simp)) with r | r
    ·exact r.symm
    ·have := yjt _ _ _ (a1 b r) (b1 a q)
     rw [yft] at this
     cases this
  subst e
  congr 1
  refine yst A B a2 b2 fun x => ?_
  constructor
  ·intro hx
   rcases List.mem_cons.1 ((h x).1 (List.mem_cons_of_mem _ hx)) with rfl | q
   ·have := a1 x hx; rw [yft] at this; cases this
   ·exact q
  ·intro hx
   rcases List.mem_cons.1 ((h x).2 (List.mem_cons_of_mem _ hx)) with rfl | q
   ·have := b1 x hx; rw [yft] at this; cases this
   ·exact q
variable {p : ByteArray} {l : List ByteArray}
theorem sort_pw (ss : List (List UInt8)) : (ss.mergeSort fun x y => decide (x ≤ y)).Pairwise (fun a b => Op.bytesLess b a = false) := by
 have := List.pairwise_mergeSort (le := fun x y : List UInt8 => decide (x ≤ y)) ?_ ?_ ss
 ·refine this.imp ?_
  intro a b h
  rw [yjh] at h
  simpa using h
 ·intro a b c h h'
  rw [yjh] at h h' ⊢
  cases e : Op.bytesLess c a with
  |false => rfl
  |true =>
   simp at h h'
   have hab : Op.bytesLess a b = true ∨ a = b := by
    cases e2 : Op.bytesLess a b with
    |true => exact .inl rfl
    |false => exact .inr (ywi _ _ e2 h)
   rcases hab with hab | rfl
   ·rw [yjt _ _ _ e hab] at h'; cases h'
   ·rw [e] at h'; cases h'
 ·intro a b
  rw [yjh, yjh]
  cases e : Op.bytesLess b a with
  |false => rfl
  |true =>
   cases e2 : Op.bytesLess a b with
   |false => rfl
   |true =>
    have := yjt _ _ _ e e2
    rw [yft] at this
    cases this
def insK (p : ByteArray) (l : List ByteArray) : List ByteArray := l.filter (fun x => slt x p) ++ p :: l.filter (fun x => slt p x)
def ydy (a b : List ByteArray) : List ByteArray := b.foldl (fun acc p => insK p acc) a
theorem mem_insK {x : ByteArray} : x ∈ insK p l ↔ x = p ∨ x ∈ l := by
 unfold insK
 simp only [List.mem_append, List.mem_cons, List.mem_filter]
 constructor
 ·rintro (⟨h, _⟩ | rfl | ⟨h, _⟩)
  ·exact .inr h
  ·exact .inl rfl
  ·exact .inr h
 ·rintro (rfl | h)
  ·exact .inr (.inl rfl)
  ·cases h1 : slt x p with
   |true => exact .inl ⟨h, rfl⟩
   |false =>
    cases h2 : slt p x with
    |true => exact .inr (.inr ⟨h, rfl⟩)
    |false => exact .inr (.inl (yqi h1 h2))
def ycz (l : List ByteArray) : Prop := l.Pairwise (fun a b => slt a b = true)
theorem rising_insK (h : ycz l) : ycz (insK p l) := by
 unfold insK ycz at *
 refine List.pairwise_append.2 ⟨h.filter _, List.pairwise_cons.2 ⟨fun x hx => (List.mem_filter.1 hx).2, h.filter _⟩, fun a ha b hb => ?_⟩
 have ha' := (List.mem_filter.1 ha).2
 rcases List.mem_cons.1 hb with rfl | hb
 ·exact ha'
 ·exact ydx ha' (List.mem_filter.1 hb).2
theorem yhn (b : List ByteArray) : ∀ a, ycz a → ycz (ydy a b) ∧ ∀ x, x ∈ ydy a b ↔ x ∈ a ∨ x ∈ b := by
 induction b with
 |nil => intro a h; exact ⟨h, by simp [ydy]⟩
 |cons p b ih =>
  intro a h
  obtain ⟨i1, i2⟩ := ih (insK p a) (rising_insK h)
  refine ⟨i1, fun x => ?_⟩
  show x ∈ ydy (insK p a) b ↔ _
  rw [i2, mem_insK, List.mem_cons]
  constructor
  ·rintro ((h | h) | h)
   ·exact .inr (.inl h)
   ·exact .inl h
   ·exact .inr (.inr h)
  ·rintro (h | h | h)
   ·exact .inl (.inr h)
   ·exact .inl (.inl h)
   ·exact .inr h
theorem slt_lst (a b : ByteArray) : slt a b = Op.bytesLess (lst a) (lst b) := by
 unfold slt lst
 rw [ByteArray.toList_eq, ByteArray.toList_eq]
theorem ytq (l a b : List ByteArray) (ha : ycz a) (hp : l.Perm (a ++ b)) : Lib.compact ((l.map lst).mergeSort fun x y => decide (x ≤ y)) = (ydy a b).map lst := by
 obtain ⟨h1, h2⟩ := yre _ (sort_pw (l.map lst))
 obtain ⟨u1, u2⟩ := yhn b a ha
 refine yst _ _ h1 ?_ fun x => ?_
 ·rw [List.pairwise_map]
  exact u1.imp fun h => by rw [← slt_lst]; exact h
 ·rw [h2, List.mem_mergeSort]
  simp only [List.mem_map]
  constructor
  ·rintro ⟨y, hy, rfl⟩
   exact ⟨y, (u2 y).2 (List.mem_append.1 (hp.mem_iff.1 hy)), rfl⟩
  ·rintro ⟨y, hy, rfl⟩
   exact ⟨y, hp.mem_iff.2 (List.mem_append.2 ((u2 y).1 hy)), rfl⟩
end Go.Proofs.K

namespace Go.Proofs.K
open Go.RowKit Go.Maps Go.Sort
theorem pathsOf_two (rb s : Nat) (cm : Nat → Int) (mb : Nat) (E : yau) (rb' s' : Nat) (cm' : Nat → Int) (mb' : Nat) (E' : yau) (g : Nat) (w : World) (h : Rg w rb s cm mb E) (h' : Rg w rb' s' cm' mb' E') (hg : w.cell? ⟨g, 0, none⟩ = some (.pointer (some ⟨rb, 0, none⟩))) (hg' : w.cell? ⟨g, 1, none⟩ = some (.pointer (some ⟨rb', 0, none⟩))) (hgl : g < w.heap.size) :
  Calls Tryz.prog 122 #[.slice (some ⟨g, 0, none⟩) 2 2] w fun e w' => ∃ v, e = .returned v ∧ w'.ownsRow w.heap.size 9 1 v (ydy (E.map (·.1)) (E'.map (·.1))).length (svs (ydy (E.map (·.1)) (E'.map (·.1)))) ∧ Below w.heap.size w w' := by
 have h1 := h.len
 have h2 := h'.len
 refine yxn 2 (fun i => [rb, rb'].getD i 0) (fun i => [mb, mb'].getD i 0) (fun i => [E, E'].getD i []) g w _ (fun i hi => ?_) hgl (by omega) (fun i hi => ?_) fun l hp => ytq l _ _ (by unfold ycz; rw [List.pairwise_map]; exact h.ris) hp
 ·match i, hi with
  |0, _ => exact ⟨hg, s, cm, h.rep, h.own, h.ris⟩
  |1, _ => exact ⟨hg', s', cm', h'.rep, h'.own, h'.ris⟩
 ·match i, hi with
  |0, _ => simp [cat]
  |1, _ => simp [cat]; omega
  |2, _ => simp [cat]; omega
open Go.RowKit
theorem info_Change : (Tryz.prog.info? 44).map (fun i => (i.zero, i.size, i.bytes)) = some (some (.agg #[.int .i64 0, .string ⟨#[]⟩, .int .i64 0]), 3, 32) := by kernel_rfl
section
variable {ops : Array Oper} {rest : List Oper} {o : Oper} {a : Act} {Q : Exit → Act → World → Prop} (w : World)
theorem app_change (hgd : o.guard = none) (s x : Operand) (ho : o.op = .call { callee := .builtin .append, args := #[s, x], argTypes := #[37, 37] }) (base : Nat) (v : Value) (n : Nat) (xs : List Value) (hs : a.eval s = v) (hown : w.ownsRow base 44 3 v n xs)
  (k : Nat) (y0 : Int) (y1 : ByteArray) (y2 : Int) (hx : a.eval x = .slice (some ⟨k, 0, none⟩) 1 1)
  (hc : w.heap[k]? = some (.cells #[.int .i64 y0, .string y1, .int .i64 y2] 44)) (hn : n ≤ 1000000000) (hb : base ≤ w.heap.size)
  (h : ∀ g cap w1, w1.ownsRow base 44 3 (.slice (some ⟨g, 0, none⟩) (n + 1) cap) (n + 1) (xs ++ [.int .i64 y0, .string y1, .int .i64 y2]) → w.grownBy w1 v.ownBlock → (v.ownBlock = some g ∨ g = w.heap.size) → g < w1.heap.size → wpList Tryz.prog ops Q rest (a.put o.dst (.slice (some ⟨g, 0, none⟩) (n + 1) cap)) w1) :
  wpList Tryz.prog ops Q (o :: rest) a w := by
 obtain ⟨i0, hi, hz0, hz1, hz2⟩ := info_parts info_Change
 refine wpList_append_lies w hgd s x 37 ho base 44 i0 _ 3 32 Tryz.underlying37 hi hz0 hz1 hz2 rfl (by decide) v n xs hs hown ⟨k, 0, none⟩ 1 1 _ hx rfl ?_ ?_ (by omega) (by unfold maxLen; omega) (by omega) hb _ rfl h
 ·exact World.news_of_block hc
 ·intro u hu; simp at hu; rcases hu with rfl | rfl | rfl <;> rfl
end
def yiu (s : Nat) (cm : Nat → Int) (E : yau) (s' : Nat) (cm' : Nat → Int) (E' : yau) (acc : yau × List (ByteArray × Int)) (p : ByteArray) : yau × List (ByteArray × Int) :=
 (yce (yac cm cm') p (ydk (ybk s cm (ybh p E)) (ybk s' cm' (ybh p E'))).1 acc.1,
  if (ydk (ybk s cm (ybh p E)) (ybk s' cm' (ybh p E'))).2 = 0 then acc.2 else acc.2 ++ [(p, (ydk (ybk s cm (ybh p E)) (ybk s' cm' (ybh p E'))).2)])
def yle (s : Nat) (cm : Nat → Int) (E : yau) (s' : Nat) (cm' : Nat → Int) (E' : yau) : yau × List (ByteArray × Int) :=
 (ydy (E.map (·.1)) (E'.map (·.1))).foldl (yiu s cm E s' cm' E') ([], [])
def chv (s : Nat) (l : List (ByteArray × Int)) : List Value := (l.map fun x => [Value.int .i64 s, .string x.1, .int .i64 x.2]).flatten
theorem chv_app (s : Nat) (l : List (ByteArray × Int)) (p : ByteArray) (z : Int) : chv s (l ++ [(p, z)]) = chv s l ++ [.int .i64 s, .string p, .int .i64 z] := by simp [chv]
theorem take_fold {α β : Type} (f : β → α → β) (b : β) (l : List α) (i : Nat) (x : α) (h : l[i]? = some x) : (l.take (i + 1)).foldl f b = f ((l.take i).foldl f b) x := by
 obtain ⟨hlt, e⟩ := List.getElem?_eq_some_iff.1 h
 rw [List.take_succ_eq_append_getElem hlt, List.foldl_append, e]
 rfl
end Go.Proofs.K

namespace Go.Proofs.K
open Go.RowKit Go.Maps
theorem yyx (b : List ByteArray) : ∀ a, (ydy a b).length ≤ a.length + b.length := by
 induction b with
 |nil => intro a; exact Nat.le_refl _
 |cons p b ih =>
  intro a
  have h1 := ih (insK p a)
  have h2 : (insK p a).length ≤ a.length + 1 := by
   unfold insK
   have : (a.filter (fun x => slt x p)).length + (a.filter (fun x => slt p x)).length ≤ a.length := by
    clear ih h1
    induction a with
    |nil => simp
    |cons y E ih =>
     rw [List.filter_cons, List.filter_cons]
     cases h1 : slt y p <;> cases h2 : slt p y <;> simp <;> first | omega | skip
     exact absurd (ydx h1 h2) (by rw [ycc]; simp)
   simp only [List.length_append, List.length_cons]
   omega
  show (ydy (insK p a) b).length ≤ _
  simp only [List.length_cons]
  omega
structure Pl (w wr : World) (z s : Nat) (cmn : Nat → Int) (U : List ByteArray) (pv cv : Value) (A : yau × List (ByteArray × Int)) : Prop where
 rg : Rg wr (w.heap.size + 1) s cmn w.heap.size A.1
 ch : wr.ownsRow z 44 3 cv A.2.length (chv s A.2)
 pa : wr.ownsRow (w.heap.size + 2) 9 1 pv U.length (svs U)
 plt : ∀ g, pv.ownBlock = some g → g < z
 bel : Below w.heap.size w wr
 zge : w.heap.size + 2 ≤ z
 zle : z ≤ wr.heap.size
 nl : A.2 = [] → cv = .slice none 0 0
section
variable {w wr wr' : World} {z s : Nat} {cmn : Nat → Int} {U : List ByteArray} {pv cv : Value} {A : yau × List (ByteArray × Int)}
theorem Pl.more (h : Pl w wr z s cmn U pv cv A) (hb : Below wr.heap.size wr wr') : Pl w wr' z s cmn U pv cv A :=
 ⟨h.rg.below hb, yas h.ch (fun k e => hb.block k (World.ownsRow.lt h.ch k e).2), yas h.pa (fun k e => hb.block k (World.ownsRow.lt h.pa k e).2), h.plt, h.bel.trans (hb.mono h.bel.size), h.zge, Nat.le_trans h.zle hb.size, h.nl⟩
theorem Pl.alloc (h : Pl w wr z s cmn U pv cv A) (o : Obj) : Pl w (wr.alloc o) z s cmn U pv cv A := h.more ((Below.refl _ _).alloc (Nat.le_refl _) o)
theorem Pl.keep (h : Pl w wr z s cmn U pv cv A) (hA : A.1.length < 999999) {p : ByteArray} (hp : p.size ≤ 1000000000000) {R : Rec} (h0 : 0 ≤ R.bn) (hbr : ykr R) :
  Calls Tryz.prog 112 #[.pointer (some ⟨w.heap.size + 1, 0, none⟩), .string p, yad R] wr fun e w' => e = .returned (.tuple #[]) ∧ Pl w w' z s cmn U pv cv (yce cmn p R A.1, A.2) := by
 refine (ypf (w.heap.size + 1) s cmn w.heap.size A.1 wr h.rg.rep h.rg.own h.rg.ris (by unfold maxLen; omega) p hp R h0).mono ?_
 rintro e w' ⟨rfl, h1, h2, hf⟩
 refine ⟨rfl, ⟨h1, h2, yco _ _ _ _ h.rg.ris, fun x hx => ?_, by have := ylo cmn p R A.1; show (yce cmn p R A.1).length < _; omega, h.rg.c0⟩, ?_, ?_, h.plt, ?_, h.zge, Nat.le_trans h.zle hf.size, h.nl⟩
 ·rcases yjg hx with rfl | hx
  ·exact ⟨h0, hbr⟩
  ·exact h.rg.bn x hx
 ·exact yas h.ch (fun k e => hf.block k (World.ownsRow.lt h.ch k e).2 (by have := (World.ownsRow.lt h.ch k e).1; have := h.zge; omega))
 ·exact yas h.pa (fun k e => hf.block k (World.ownsRow.lt h.pa k e).2 (by have := (World.ownsRow.lt h.pa k e).1; omega))
 ·exact ⟨hf.os.trans h.bel.os, hf.tape.trans h.bel.tape, hf.output.trans h.bel.output, Nat.le_trans h.bel.size hf.size, fun k hk => (hf.block k (by have := h.bel.size; omega) (by omega)).trans (h.bel.block k hk)⟩
theorem Pl.grown (h : Pl w wr z s cmn U pv cv A) {w1 : World} {g cap : Nat} {p : ByteArray} {t : Int} (ho : w1.ownsRow z 44 3 (.slice (some ⟨g, 0, none⟩) (A.2.length + 1) cap) (A.2.length + 1) (chv s A.2 ++ [.int .i64 s, .string p, .int .i64 t])) (hg : wr.grownBy w1 cv.ownBlock) :
  Pl w w1 z s cmn U pv (.slice (some ⟨g, 0, none⟩) (A.2.length + 1) cap) (A.1, A.2 ++ [(p, t)]) := by
 have hne : ∀ k, k < z → some k ≠ cv.ownBlock := fun k hk e => by have := (World.ownsRow.lt h.ch k e.symm).1; omega
 have hz := h.zge
 have hzl := h.zle
 refine ⟨h.rg.keep (hg.block _ h.rg.rep.lt (hne _ (by omega))) (hg.block _ h.rg.own.lt (hne _ (by omega))), ?_, yas h.pa (fun k e => hg.block k (World.ownsRow.lt h.pa k e).2 (hne _ (h.plt k e))), h.plt, ?_, hz, ?_, fun e => by simp at e⟩
 ·rw [chv_app, List.length_append]
  exact ho
 ·exact yfx h.bel hg (fun k hk => by have := (World.ownsRow.lt h.ch k hk).1; omega)
 ·exact Nat.le_trans hzl hg.size
theorem Pl.at (h : Pl w wr z s cmn U pv cv A) {g cap i : Nat} {p : ByteArray} (e : pv = .slice (some ⟨g, 0, none⟩) U.length cap) (hi : U[i]? = some p) : wr.cell? ⟨g, i, none⟩ = some (.string p) := by
 have q := h.pa
 rw [e] at q
 rw [World.ownsRow.cellAt q i (by have := (List.getElem?_eq_some_iff.1 hi).1; omega)]
 simp [svs, hi]
theorem Pl.some (h : Pl w wr z s cmn U pv cv A) {pa : Option Addr} {pc : Nat} (e : pv = .slice pa U.length pc) {i : Nat} (hi : i < U.length) : ∃ g, pa = some ⟨g, 0, none⟩ := by
 have q := h.pa.2
 rcases q with ⟨q, h0⟩ | ⟨g, cap, cur, q, _⟩
 ·omega
 ·rw [e] at q
  cases q
  exact ⟨g, rfl⟩
end
theorem accP_len (s : Nat) (cm : Nat → Int) (E : yau) (s' : Nat) (cm' : Nat → Int) (E' : yau) (U : List ByteArray) : ∀ (A : yau × List (ByteArray × Int)), (U.foldl (yiu s cm E s' cm' E') A).1.length ≤ A.1.length + U.length ∧ (U.foldl (yiu s cm E s' cm' E') A).2.length ≤ A.2.length + U.length := by
 induction U with
 |nil => intro A; exact ⟨Nat.le_refl _, Nat.le_refl _⟩
 |cons p U ih =>
  intro A
  have h := ih (yiu s cm E s' cm' E' A p)
  have h1 : (yiu s cm E s' cm' E' A p).1.length ≤ A.1.length + 1 := ylo _ _ _ _
  have h2 : (yiu s cm E s' cm' E' A p).2.length ≤ A.2.length + 1 := by
   unfold yiu
   split <;> simp
  simp only [List.foldl_cons, List.length_cons]
  omega
end Go.Proofs.K
