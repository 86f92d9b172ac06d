/- The program's lines of a replica: what stands at each round. The program's lines of a replica. The program's linesOf, Seal, Pack. The program's Seal, Pack, Unpack. -/
import Derived.Test.YtaelaldmibgibaaGreatDoorU46
import Derived.Deep.RegionLaw
import Derived.Test.YtaelaldmibgibaaGreatDoorU47

set_option linter.unusedVariables false
set_option linter.unusedSimpArgs false

namespace Go.Proofs.YtaelaldmibgibaaGreatDoor
open Go.RowKit Go.Lib Go.Maps

theorem step_app_str {ops : Array Oper} {o : Oper} {a : Act} {K : Act → World → Prop} {Q : Exit → Act → World → Prop} {E : Prop} (w : World) (hgd : o.guard = none) (s x : Operand) (ho : o.op = .call { callee := .builtin .append, args := #[s, x], argTypes := #[25, 25] }) (base : Nat) (v : Value) (n : Nat) (xs : List Value) (hs : a.eval s = v) (hown : w.ownsRow base 9 1 v n xs)
    (k : Nat) (y : ByteArray) (hx : a.eval x = .slice (some ⟨k, 0, none⟩) 1 1) (hc : w.cell? ⟨k, 0, none⟩ = some (.string y)) (hn : n ≤ 1000000000000) (hb : base ≤ w.heap.size)
    (h : ∀ g cap w1, w1.ownsRow base 9 1 (.slice (some ⟨g, 0, none⟩) (n + 1) cap) (n + 1) (xs ++ [.string y]) → w.grownBy w1 v.ownBlock → (v.ownBlock = some g ∨ g = w.heap.size) → g < w1.heap.size → K (a.put o.dst (.slice (some ⟨g, 0, none⟩) (n + 1) cap)) w1) :
    if Region.wanted o (yielded ops a.tmps) = true then Oper.wp Tryz.prog o a w K Q else E := by
  obtain ⟨i0, hi, hz0, hz1, hz2⟩ := info_parts info_string
  refine step_append_lies w hgd s x 25 ho base 9 i0 _ 1 16 Tryz.underlying25 hi hz0 hz1 hz2 rfl (by decide) v n xs hs hown ⟨k, 0, none⟩ 1 1 [.string y] hx rfl ?_ ?_ (by omega) (by unfold maxLen; omega) (by omega) hb _ rfl h
  · intro j u hj
    match j, hj with
    | 0, hj => simp at hj; subst hj; simpa [Addr.add] using hc
  · intro u hu; simp at hu; subst hu; rfl

theorem pathsOf_form (rb s : Nat) (cm : Nat → Int) (mb : Nat) (E : Recs) (g : Nat) (w : World) (h : Rp w rb s cm mb E) (hl : E.length < 100000000) (hg : w.cell? ⟨g, 0, none⟩ = some (.pointer (some ⟨rb, 0, none⟩))) (hgl : g < w.heap.size) :
    Calls Tryz.prog 122 #[.slice (some ⟨g, 0, none⟩) 1 1] w fun e w' => ∃ a cap, e = .returned (.slice a E.length cap) ∧ w'.ownsRow w.heap.size 9 1 (.slice a E.length cap) E.length (svs (E.map (·.1))) ∧ Below w.heap.size w w' := by
  refine (pathsOf_one rb s cm mb E g w h hl hg hgl).mono ?_
  rintro e w' ⟨v, rfl, ho, hb⟩
  rcases ho.2 with ⟨rfl, h0⟩ | ⟨g', cap, cur, rfl, _⟩
  · refine ⟨none, 0, by rw [h0], ?_, hb⟩
    have := ho
    rw [h0] at this ⊢
    exact this
  · exact ⟨_, cap, rfl, ho, hb⟩

theorem recL_fT (y : ByteArray × DS) : recL y = bs y.1 ++ 32 :: (timeT y.2.known ++ 32 :: y.2.fT) := rfl
/-- the lines under way -/
structure LI (w wr : World) (pv lv : Value) (d : DR) (i : Nat) : Prop where
  bel : Below w.heap.size w wr
  lines : wr.ownsRow w.heap.size 9 1 lv (i + 1) (svs (((linesD d).take (i + 1)).map ofBs))
  paths : wr.ownsRow w.heap.size 9 1 pv d.recs.length (svs (d.recs.map (·.1)))
  ne : pv.ownBlock = none ∨ pv.ownBlock ≠ lv.ownBlock
theorem LI.more {w wr w2 : World} {pv lv : Value} {d : DR} {i : Nat} (h : LI w wr pv lv d i) (hb : Below wr.heap.size wr w2) : LI w w2 pv lv d i :=
  ⟨h.bel.trans (hb.mono h.bel.size), ownsRow_keep h.lines (fun k e => hb.block k (World.ownsRow.lt h.lines k e).2), ownsRow_keep h.paths (fun k e => hb.block k (World.ownsRow.lt h.paths k e).2), h.ne⟩
theorem lines_take (d : DR) (i : Nat) (y : ByteArray × DS) (hy : d.recs[i]? = some y) : ((linesD d).take (i + 1)).map ofBs ++ [ofBs (recL y)] = ((linesD d).take (i + 1 + 1)).map ofBs := by
  have : (linesD d)[i + 1]? = some (recL y) := by
    unfold linesD
    rw [List.getElem?_cons_succ, List.getElem?_map, hy]
    rfl
  rw [List.take_add_one (i := i + 1), this]
  simp
theorem LI.step {w w2 w3 : World} {pv lv : Value} {d : DR} {i g cap : Nat} (h : LI w w2 pv lv d i) {y : ByteArray × DS} (hy : d.recs[i]? = some y) (o : Obj)
    (ho : w3.ownsRow w.heap.size 9 1 (.slice (some ⟨g, 0, none⟩) (i + 1 + 1) cap) (i + 1 + 1) (svs (((linesD d).take (i + 1)).map ofBs) ++ [.string (ofBs (recL y))])) (hg : (w2.alloc o).grownBy w3 lv.ownBlock) (hat : lv.ownBlock = some g ∨ g = (w2.alloc o).heap.size) :
    LI w w3 pv (.slice (some ⟨g, 0, none⟩) (i + 1 + 1) cap) d (i + 1) := by
  have e : svs (((linesD d).take (i + 1)).map ofBs) ++ [.string (ofBs (recL y))] = svs (((linesD d).take (i + 1 + 1)).map ofBs) := by
    rw [← lines_take d i y hy, svs_append]
    rfl
  rw [e] at ho
  refine ⟨grown_below (h.bel.alloc h.bel.size _) hg (fun k hk => (World.ownsRow.lt h.lines k hk).1), ho, (h.paths.alloc o).kept hg h.ne, ?_⟩
  rcases h.ne with hn | hn
  · exact .inl hn
  · right
    intro q
    rcases hat with hq | hq
    · exact hn (by rw [hq, q]; rfl)
    · have := (World.ownsRow.lt h.paths g (by rw [q]; rfl)).2
      rw [hq] at this
      simp at this
      omega

end Go.Proofs.YtaelaldmibgibaaGreatDoor

namespace Go.Proofs.YtaelaldmibgibaaGreatDoor
open Go.RowKit Go.Lib Go.Maps

theorem getE_of_mem {E : Recs} (hE : RisingE E) {p : ByteArray} {R : Rec} (h : (p, R) ∈ E) : getE p E = some R := by
  obtain ⟨R', hR⟩ := Option.isSome_iff_exists.1 (getE_mem h)
  simp only at hR
  rw [hR, rising_one hE (mem_getE hR) h]
theorem upT_eq {k : Nat → Int} {s : Nat} {x : Int} (h : k s = x) : upT k s x = k := by
  funext j
  unfold upT
  split
  · rename_i e; rw [e, h]
  · rfl
theorem LI.start {w w1 w2 : World} {d : DR} {a : Option Addr} {cap n : Nat} (hb1 : Below w.heap.size w w1) (s0 : ByteArray) (hs : s0 = ofBs (bs replicaW ++ timeT d.com)) (o : Obj) (hn : n = d.recs.length)
    (ho : w2.ownsRow ((w1.alloc (.cells #[.string s0] 9)).alloc o).heap.size 9 1 (.slice a n cap) n (svs (d.recs.map (·.1))))
    (hb2 : Below ((w1.alloc (.cells #[.string s0] 9)).alloc o).heap.size ((w1.alloc (.cells #[.string s0] 9)).alloc o) w2) : LI w w2 (.slice a n cap) (.slice (some ⟨w1.heap.size, 0, none⟩) 1 1) d 0 := by
  subst hn
  have hz := hb1.size
  have hb3 : Below w.heap.size w ((w1.alloc (.cells #[.string s0] 9)).alloc o) := (hb1.alloc hz _).alloc (by simp; omega) _
  have hr : w2.ownsRow w.heap.size 9 1 (.slice (some ⟨w1.heap.size, 0, none⟩) 1 1) 1 (svs [s0]) := by
    have h0 : ((w1.alloc (.cells #[.string s0] 9)).alloc o).ownsRow w.heap.size 9 1 (.slice (some ⟨w1.heap.size, 0, none⟩) 1 1) 1 (svs [s0]) := (World.ownsRow_lit w1 #[.string s0] 1 hz (by unfold maxLen; omega) rfl).alloc o
    exact ownsRow_keep h0 (fun k e => hb2.block k (World.ownsRow.lt h0 k e).2)
  refine ⟨hb3.trans (hb2.mono hb3.size), ?_, ownsRow_base ho (fun k hk => Nat.le_trans hb3.size (World.ownsRow.lt ho k hk).1), ?_⟩
  · have : ((linesD d).take (0 + 1)).map ofBs = [s0] := by rw [hs]; rfl
    rw [this]
    exact hr
  · cases a with
    | none => exact .inl rfl
    | some ad =>
      right
      intro e
      have h1 := (World.ownsRow.lt ho ad.block rfl).1
      have h2 : some ad.block = some w1.heap.size := e
      simp at h1 h2
      omega

/-- a record's copy beside the lines -/
structure LJ (w V : World) (pv lv : Value) (d : DR) (i b : Nat) (R : Rec) : Prop where
  li : LI w V pv lv d i
  rc : RecAt V b R
theorem LJ.more {w V V' : World} {pv lv : Value} {d : DR} {i b : Nat} {R : Rec} (h : LJ w V pv lv d i b R) (hb : Below V.heap.size V V') : LJ w V' pv lv d i b R :=
  ⟨h.li.more hb, ⟨by rw [hb.block b (Array.getElem?_eq_some_iff.1 h.rc.blk).1]; exact h.rc.blk⟩⟩

set_option maxRecDepth 100000 in
set_option maxHeartbeats 1000000 in
theorem Lines_any (rb s mb : Nat) (d : DR) (n : Nat) (h1 : 1 ≤ n) (h6 : n ≤ 6) (hd : d.ok n) (hgd : goodD s d) (hlen : d.recs.length < 100000000) (w : World) (h : Rp w rb s (lfn d.com) mb (toE d.recs)) (hg : Glob w) :
    Calls Tryz.prog 73 #[.pointer (some ⟨rb, 0, none⟩), .int .i64 n] w fun e w' => ∃ v, e = .returned v ∧ w'.ownsRow w.heap.size 9 1 v (d.recs.length + 1) (svs ((linesD d).map ofBs)) ∧ Below w.heap.size w w' := by
  have TC : Hid (∀ W, Below w.heap.size w W → Calls Tryz.prog 121 #[.agg #[.int .i64 (lfn d.com 0), .int .i64 (lfn d.com 1), .int .i64 (lfn d.com 2), .int .i64 (lfn d.com 3), .int .i64 (lfn d.com 4), .int .i64 (lfn d.com 5)], .int .i64 n] W fun e w' => e = .returned (.string (ofBs (timeT d.com))) ∧ Below w.heap.size w w') := fun W hW => (TimeTold_any d.com n hd.cl h1 h6 hd.cb W (hg.below hW)).mono fun e w' q => ⟨q.1, hW.trans (q.2.mono hW.size)⟩
  have s0 : (ofBs (timeT d.com)).size ≤ 1000 := by rw [ofBs_size]; have := timeT_len d.com hd.cb; have := hd.cl; omega
  have E0 : Hid ((⟨#[114, 101, 112, 108, 105, 99, 97, 32]⟩ : ByteArray) ++ ofBs (timeT d.com) = ofBs (bs replicaW ++ timeT d.com)) := by
    unfold Hid
    apply bs_inj
    rw [bs_append, bs_ofBs, bs_ofBs]
    rfl
  have PO : Hid (∀ (W : World) (o : Obj) (k : Nat), k = W.heap.size → Below w.heap.size w W → (W.alloc o).cell? ⟨k, 0, none⟩ = some (.pointer (some ⟨rb, 0, none⟩)) → Calls Tryz.prog 122 #[.slice (some ⟨k, 0, none⟩) 1 1] (W.alloc o) fun e w' => ∃ a cap, e = .returned (.slice a d.recs.length cap) ∧ w'.ownsRow (W.alloc o).heap.size 9 1 (.slice a d.recs.length cap) d.recs.length (svs (d.recs.map (·.1))) ∧ Below (W.alloc o).heap.size (W.alloc o) w') := fun W o k hkk hW hc => by
    subst hkk
    have hb : Below w.heap.size w (W.alloc o) := hW.alloc hW.size _
    have := pathsOf_form rb s (lfn d.com) mb (toE d.recs) W.heap.size (W.alloc o) (h.below hb) (by rw [toE_len]; exact hlen) hc (by simp)
    have e : (toE d.recs).map (·.1) = d.recs.map (·.1) := by unfold toE; rw [List.map_map]; rfl
    rw [toE_len, e] at this
    exact this
  have RO : Hid (∀ (W : World) (y : ByteArray × DS), y ∈ d.recs → Below w.heap.size w W → Calls Tryz.prog 104 #[.pointer (some ⟨rb, 0, none⟩), .string y.1] W fun e w' => e = .returned (recVal (toRec y.2)) ∧ Below W.heap.size W w') := fun W y hy hW => by
    have hR := h.below hW
    have hm : (y.1, toRec y.2) ∈ toE d.recs := List.mem_map.2 ⟨y, hy, rfl⟩
    have hge := getE_of_mem h.ris hm
    have hp := hd.recs.paths y hy
    have hps : y.1.size ≤ 12 := by unfold pathOk at hp; simp only [Bool.and_eq_true, decide_eq_true_eq] at hp; omega
    have hkn : (toRec y.2).kn s = lfn d.com s := by
      have := (hgd.recs y hy).2
      unfold couldB at this
      simp only [Bool.and_eq_true, decide_eq_true_eq] at this
      exact this.1
    have hk : Maps.has (datOf (toE d.recs)) (key y.1) = true := by rw [has_datOf, hge]; rfl
    have hat : (datOf (toE d.recs)).atKey (key y.1) (recDat rec0) = recDat (toRec y.2) := by rw [atKey_datOf, hge]
    have := recordOf_kept rb s (lfn d.com) mb W hR.rep (toE d.recs).length (datOf (toE d.recs)) hR.own y.1 (by unfold maxLen; omega) (toRec y.2) hk hat
    rw [upT_eq hkn] at this
    exact this
  have c1 := h.rep.ct 0 (by omega)
  have c2 := h.rep.ct 1 (by omega)
  have c3 := h.rep.ct 2 (by omega)
  have c4 := h.rep.ct 3 (by omega)
  have c5 := h.rep.ct 4 (by omega)
  have c6 := h.rep.ct 5 (by omega)
  simp only [Nat.reduceAdd] at c1 c2 c3 c4 c5 c6
  have GL : Hid (∀ W, Below w.heap.size w W → Glob W) := fun W hW => hg.below hW
  generalize ht0 : ofBs (timeT d.com) = tt at *
  generalize hrl : d.recs.length = rl at *
  have n1 : ¬ 9223372036854775807 < 8 + tt.size := by omega
  clear h hg ht0
  go_enter Tryz.func73, Tryz.ntmps73
  go_wp2_with (first
    | (go_at_call 121; refine (TC.out _ (Below.refl _ _)).mono ?_; rintro e w1 ⟨rfl, hb1⟩; have H1 := hide hb1; clear hb1)
    | (go_at_call 122; refine (PO.out _ _ (w1.heap.size + 1) (by simp) (H1.out.alloc H1.out.size _) (by simp)).mono ?_; rintro e w2 ⟨a, cap, rfl, ho2, hb2⟩; have L2 := hide (LI.start H1.out _ E0.out _ hrl.symm ho2 hb2); clear ho2 hb2))
  clear c1 c2 c3 c4 c5 c6 TC PO n1 s0 E0 H1
  go_loopw [5, 21] (fun lv iv wr => ∃ i : Nat, i ≤ rl ∧ iv = .int .i64 i ∧ Hid (LI w wr (.slice a rl cap) lv d i)) (fun _ iv _ => rl - (intOf iv).toNat)
  case atStart => exact ⟨0, Nat.zero_le _, rfl, L2⟩
  case round =>
    clear L2
    obtain ⟨i, hi, rfl, hL⟩ := hrel
    by_cases hlt : i < rl
    · obtain ⟨y, hy⟩ : ∃ y, d.recs[i]? = some y := ⟨_, List.getElem?_eq_getElem (by omega)⟩
      have hmem := List.mem_of_getElem? hy
      obtain ⟨pg, pcap, ea, _, _⟩ := World.ownsRow.form hL.out.paths (by omega)
      simp only [Value.slice.injEq] at ea
      obtain ⟨rfl, erl, rfl⟩ := ea
      clear erl
      have cp : wr.cell? ⟨pg, i, none⟩ = some (.string y.1) := by
        have hp := hL.out.paths
        rw [hrl] at hp
        rw [World.ownsRow.cellAt hp i (by omega)]
        unfold svs
        rw [List.getElem?_map, List.getElem?_map, hy]
        rfl
      have hdy := hd.recs.oks y hmem
      have hby := (hgd.recs y hmem).1
      have hpy := hd.recs.paths y hmem
      have hps : y.1.size ≤ 12 := by unfold pathOk at hpy; simp only [Bool.and_eq_true, decide_eq_true_eq] at hpy; omega
      have RC := hide (RO.out wr y hmem hL.out.bel)
      have KT : Hid (∀ V lv, LJ w V (.slice (some ⟨pg, 0, none⟩) rl cap) lv d i lv.ownBlock.isSome.toNat (toRec y.2) → True) := fun _ _ _ => trivial
      have TK : Hid (∀ V, Below w.heap.size w V → Calls Tryz.prog 121 #[.agg #[.int .i64 ((toRec y.2).kn 0), .int .i64 ((toRec y.2).kn 1), .int .i64 ((toRec y.2).kn 2), .int .i64 ((toRec y.2).kn 3), .int .i64 ((toRec y.2).kn 4), .int .i64 ((toRec y.2).kn 5)], .int .i64 n] V fun e w' => e = .returned (.string (ofBs (timeT y.2.known))) ∧ Below V.heap.size V w') := fun V hV => TimeTold_any y.2.known n hdy.kl h1 h6 hdy.kb V (GL.out V hV)
      have FK : Hid (∀ V, Below w.heap.size w V → Calls Tryz.prog 123 #[.agg #[.string (toRec y.2).text, .int .i64 (toRec y.2).br, .int .i64 (toRec y.2).bn, .int .i64 ((toRec y.2).ch 0), .int .i64 ((toRec y.2).ch 1), .int .i64 ((toRec y.2).ch 2), .int .i64 ((toRec y.2).ch 3), .int .i64 ((toRec y.2).ch 4), .int .i64 ((toRec y.2).ch 5)], .int .i64 n] V fun e w' => e = .returned (.string (ofBs y.2.fT)) ∧ Below V.heap.size V w') := fun V hV => fileTold_any y.2 n h1 h6 hdy hby V (GL.out V hV)
      have HL : Hid (y.1 ++ (⟨#[32]⟩ : ByteArray) ++ ofBs (timeT y.2.known) ++ (⟨#[32]⟩ : ByteArray) ++ ofBs y.2.fT = ofBs (recL y)) := by
        unfold Hid
        apply bs_inj
        rw [bs_append, bs_append, bs_append, bs_append, bs_ofBs, bs_ofBs, bs_ofBs, recL_fT]
        simp [bs]
      have s1 : (ofBs (timeT y.2.known)).size ≤ 1000 := by rw [ofBs_size]; have := timeT_len y.2.known hdy.kb; have := hdy.kl; omega
      have s2 : (ofBs y.2.fT).size ≤ 10000 := by
        rw [ofBs_size]
        unfold DS.fT
        split
        · rename_i ht
          obtain ⟨y1, y2, y3, y4, y5⟩ := hdy.yes ht
          have t1 := dig_len 10 y.2.by_ (Nat.lt_of_lt_of_le (by omega : y.2.by_ < 1000000000) (by decide))
          have t2 := dig_len 10 y.2.num (Nat.lt_of_le_of_lt y2 (by decide))
          have t3 := timeT_len y.2.chg y4
          have t4 := hexT_len y.2.text
          simp
          omega
        · simp
      have ST := hide (fun (V w3 : World) (lv : Value) (g' cap' : Nat) (o : Obj) (hV : LI w V (.slice (some ⟨pg, 0, none⟩) rl cap) lv d i) ho hg' hat' => hV.step hy o (w3 := w3) (g := g') (cap := cap') ho hg' hat')
      clear KT
      generalize hkt : ofBs (timeT y.2.known) = kt at *
      generalize hft : ofBs y.2.fT = ft at *
      generalize hR : toRec y.2 = R at *
      generalize hq : y.1 = q at *
      generalize hrc : ofBs (recL y) = rc at *
      have n1 : ¬ 9223372036854775807 < q.size + 1 := by omega
      have n2 : ¬ 9223372036854775807 < q.size + 1 + kt.size := by omega
      have n3 : ¬ 9223372036854775807 < q.size + 1 + kt.size + 1 := by omega
      have n4 : ¬ 9223372036854775807 < q.size + 1 + kt.size + 1 + ft.size := by omega
      have HRL := hide hrl
      have hil : i + 1 ≤ 1000000000 := by omega
      clear hkt hft hR hq hrc hdy hby hpy hmem RO hy hd hgd hlen hrl
      unfold recVal at RC
      go_wp2_with (go_at_call 104; refine RC.out.mono ?_; rintro e w2 ⟨rfl, hb2⟩; have L2 := hide (hL.out.more hb2); clear hb2; dsimp only)
      have J2 : Hid (LJ w (w2.alloc (.cells #[.string R.text, .int .i64 R.br, .int .i64 R.bn, .int .i64 (R.ch 0), .int .i64 (R.ch 1), .int .i64 (R.ch 2), .int .i64 (R.ch 3), .int .i64 (R.ch 4), .int .i64 (R.ch 5), .int .i64 (R.kn 0), .int .i64 (R.kn 1), .int .i64 (R.kn 2), .int .i64 (R.kn 3), .int .i64 (R.kn 4), .int .i64 (R.kn 5)] 197)) (.slice (some ⟨pg, 0, none⟩) rl cap) u5 d i w2.heap.size R) := ⟨L2.out.more ((Below.refl _ _).alloc (Nat.le_refl _) _), ⟨heap_alloc_new _ _⟩⟩
      generalize w2.alloc (.cells #[.string R.text, .int .i64 R.br, .int .i64 R.bn, .int .i64 (R.ch 0), .int .i64 (R.ch 1), .int .i64 (R.ch 2), .int .i64 (R.ch 3), .int .i64 (R.ch 4), .int .i64 (R.ch 5), .int .i64 (R.kn 0), .int .i64 (R.kn 1), .int .i64 (R.kn 2), .int .i64 (R.kn 3), .int .i64 (R.kn 4), .int .i64 (R.kn 5)] 197) = V at *
      generalize w2.heap.size = rbk at *
      have JD : Hid (LJ w V.drew (.slice (some ⟨pg, 0, none⟩) rl cap) u5 d i rbk R) := J2.out.more ⟨rfl, rfl, rfl, Nat.le_refl _, fun _ _ => rfl⟩
      have TKJ := hide (fun W (hW : LJ w W (.slice (some ⟨pg, 0, none⟩) rl cap) u5 d i rbk R) => (TK.out W hW.li.bel).mono fun e w' q => (⟨q.1, hW.more q.2⟩ : e = .returned (.string kt) ∧ LJ w w' (.slice (some ⟨pg, 0, none⟩) rl cap) u5 d i rbk R))
      have FKJ := hide (fun W (hW : LJ w W (.slice (some ⟨pg, 0, none⟩) rl cap) u5 d i rbk R) => (FK.out W hW.li.bel).mono fun e w' q => (⟨q.1, hW.more q.2⟩ : e = .returned (.string ft) ∧ LJ w w' (.slice (some ⟨pg, 0, none⟩) rl cap) u5 d i rbk R))
      obtain ⟨k0, k1, k2, k3, k4, k5, k6, k7, k8, k9, k10, k11, k12, k13, k14⟩ := J2.out.rc.cells
      clear TK FK L2 J2 RC cp hL
      go_region_law (first
        | (go_simp; go_at_call 121; refine (TKJ.out _ (by first | exact J4.out | exact JD.out)).mono ?_; rintro e w4 ⟨rfl, hj4⟩; have J4 := hide hj4; clear hj4; obtain ⟨q0, q1, q2, q3, q4, q5, q6, q7, q8, q9, q10, q11, q12, q13, q14⟩ := J4.out.rc.cells; dsimp only)
        | (go_simp; go_at_call 123; refine (FKJ.out _ (by first | exact J4.out | exact JD.out)).mono ?_; rintro e w4 ⟨rfl, hj4⟩; have J4 := hide hj4; clear hj4; obtain ⟨q0, q1, q2, q3, q4, q5, q6, q7, q8, q9, q10, q11, q12, q13, q14⟩ := J4.out.rc.cells; dsimp only)
        | (refine step_app_str _ rfl (.tmp 28) (.tmp 43) rfl w.heap.size u5 (i + 1) _ (by rfl) (J4.out.li.lines.alloc _) w4.heap.size rc (by rfl) (by simp [← HL.out]) (by omega) (by have := J4.out.li.bel.size; simp; omega) ?_; intro g3 c3 w5 ho3 hgr3 hat3 hl3; have N5 := hide (ST.out w4 w5 u5 g3 c3 _ J4.out.li ho3 hgr3 hat3); clear ho3 hgr3 hat3 hl3; dsimp only))
      all_goals
        go_wp2
        go_roundw
        case rel => exact ⟨i + 1, by omega, by go_num, N5⟩
        case measure => simp [intOf]; omega
    · have ei : i = rl := by omega
      subst ei
      have EL : Hid (((linesD d).take (i + 1)).map ofBs = (linesD d).map ofBs) := by
        have : (linesD d).length = i + 1 := by unfold linesD; rw [List.length_cons, List.length_map, hrl]
        unfold Hid
        rw [← this, List.take_length]
      go_wp2
      go_ret
      refine ⟨_, rfl, ?_, hL.out.bel⟩
      rw [← EL.out]
      exact hL.out.lines

end Go.Proofs.YtaelaldmibgibaaGreatDoor

namespace Go.Proofs.YtaelaldmibgibaaGreatDoor
open Go.RowKit Go.Lib Go.Maps

theorem app_row {ops : Array Oper} {rest : List Oper} {o : Oper} {a : Act} {Q : Exit → Act → World → Prop} (w : World) (hgd : o.guard = none) (s x : Operand) (ho : o.op = .call { callee := .builtin .append, args := #[s, x], argTypes := #[25, 25] }) (base : Nat) (v : Value) (n : Nat) (xs : List Value) (hs : a.eval s = v) (hown : w.ownsRow base 9 1 v n xs)
    (g2 m c2 base2 : Nat) (L : List ByteArray) (hL : L.length = m) (hm : 0 < m) (hx : a.eval x = .slice (some ⟨g2, 0, none⟩) m c2) (h2 : w.ownsRow base2 9 1 (.slice (some ⟨g2, 0, none⟩) m c2) m (svs L)) (hn : n + m ≤ 1000000000) (hb : base ≤ w.heap.size)
    (h : ∀ g cap w1, w1.ownsRow base 9 1 (.slice (some ⟨g, 0, none⟩) (n + m) cap) (n + m) (xs ++ svs L) → w.grownBy w1 v.ownBlock → (v.ownBlock = some g ∨ g = w.heap.size) → g < w1.heap.size → wpList Tryz.prog ops Q rest (a.put o.dst (.slice (some ⟨g, 0, none⟩) (n + m) cap)) w1) :
    wpList Tryz.prog ops Q (o :: rest) a w := by
  obtain ⟨i0, hi, hz0, hz1, hz2⟩ := info_parts info_string
  refine wpList_append_lies w hgd s x 25 ho base 9 i0 _ 1 16 Tryz.underlying25 hi hz0 hz1 hz2 rfl (by decide) v n xs hs hown ⟨g2, 0, none⟩ m c2 (svs L) hx (by rw [svs_length, hL]; omega) (h2.cells rfl) ?_ hm (by unfold maxLen; omega) (by omega) hb _ rfl h
  intro u hu
  obtain ⟨z, _, rfl⟩ := List.mem_map.1 hu
  rfl
theorem Lines_form (rb s mb : Nat) (d : DR) (n : Nat) (h1 : 1 ≤ n) (h6 : n ≤ 6) (hd : d.ok n) (hgd : goodD s d) (hlen : d.recs.length < 100000000) (w : World) (h : Rp w rb s (lfn d.com) mb (toE d.recs)) (hg : Glob w) :
    Calls Tryz.prog 73 #[.pointer (some ⟨rb, 0, none⟩), .int .i64 n] w fun e w' => ∃ g cap, e = .returned (.slice (some ⟨g, 0, none⟩) (d.recs.length + 1) cap) ∧ w'.ownsRow w.heap.size 9 1 (.slice (some ⟨g, 0, none⟩) (d.recs.length + 1) cap) (d.recs.length + 1) (svs ((linesD d).map ofBs)) ∧ Below w.heap.size w w' := by
  refine (Lines_any rb s mb d n h1 h6 hd hgd hlen w h hg).mono ?_
  rintro e w' ⟨v, rfl, ho, hb⟩
  obtain ⟨g, cap, rfl, _⟩ := World.ownsRow.form ho (by omega)
  exact ⟨g, cap, rfl, ho, hb⟩

/-- the lines of the net's first replicas -/
def preN (m : List DR) (i : Nat) : List Bs := (bs reunionW ++ decDigits m.length) :: ((m.take i).map linesD).flatten
theorem preN_step (m : List DR) (i : Nat) (d : DR) (hd : m[i]? = some d) : preN m (i + 1) = preN m i ++ linesD d := by
  unfold preN
  rw [List.take_add_one, hd, Option.toList_some, List.map_append, List.flatten_append]
  simp
theorem preN_all (m : List DR) : preN m m.length = linesN m := by
  unfold preN linesN
  rw [List.take_length]
structure NL (w wr : World) (lv : Value) (m : List DR) (i : Nat) : Prop where
  bel : Below w.heap.size w wr
  own : wr.ownsRow w.heap.size 9 1 lv (preN m i).length (svs ((preN m i).map ofBs))
theorem NL.more {w wr w2 : World} {lv : Value} {m : List DR} {i : Nat} (h : NL w wr lv m i) (hb : Below wr.heap.size wr w2) : NL w w2 lv m i :=
  ⟨h.bel.trans (hb.mono h.bel.size), ownsRow_keep h.own (fun k e => hb.block k (World.ownsRow.lt h.own k e).2)⟩
theorem preN_lenK (K : Nat) (m : List DR) (hr : ∀ d ∈ m, d.recs.length + 1 ≤ K) : ∀ i, (preN m i).length ≤ 1 + i * K := by
  intro i
  induction i with
  | zero => simp [preN]
  | succ i ih =>
    have hk : (i + 1) * K = i * K + K := Nat.succ_mul i K
    cases hd : m[i]? with
    | none =>
      have e : preN m (i + 1) = preN m i := by unfold preN; rw [List.take_add_one, hd]; simp
      rw [e, hk]
      omega
    | some d =>
      rw [preN_step m i d hd, List.length_append, hk]
      have h2 := hr d (List.mem_of_getElem? hd)
      have h3 : (linesD d).length = d.recs.length + 1 := by unfold linesD; simp
      omega
theorem preN_len (m : List DR) (hr : ∀ d ∈ m, d.recs.length ≤ 10000000) (i : Nat) (_ : i ≤ 6) : (preN m i).length ≤ 1 + i * 10000001 := preN_lenK 10000001 m (fun d hd => by have := hr d hd; omega) i

set_option maxRecDepth 100000 in
set_option maxHeartbeats 1000000 in
theorem linesOf_any (nb pb : Nat) (rbs mbs : List Nat) (m : List DR) (w : World) (h : UNet w nb pb rbs mbs m) (hm : okNet m) (hgn : goodN m) (hr : ∀ d ∈ m, d.recs.length ≤ 10000000) (hg : Glob w) :
    Calls Tryz.prog 39 #[.pointer (some ⟨nb, 0, none⟩)] w fun e w' => ∃ v, e = .returned v ∧ w'.ownsRow w.heap.size 9 1 v (linesN m).length (svs ((linesN m).map ofBs)) ∧ Below w.heap.size w w' := by
  obtain ⟨cap, hb⟩ := h.net.blk
  have n1 := hm.n1
  have n6 := hm.n6
  have HC : Hid (∀ V, Below w.heap.size w V → V.cell? ⟨nb, 0, none⟩ = some (.slice (some ⟨pb, 0, none⟩) m.length cap)) := fun V hV => by
    rw [hV.cell (p := ⟨nb, 0, none⟩) h.lt.1]
    simp [World.cell?, hb]
  have c0 := HC.out w (Below.refl _ _)
  have IT := hide (itoa_any m.length (by omega) w hg)
  have E0 : Hid ((⟨#[114, 101, 117, 110, 105, 111, 110, 32]⟩ : ByteArray) ++ ofBs (decDigits m.length) = ofBs (bs reunionW ++ decDigits m.length)) := by
    unfold Hid
    apply bs_inj
    rw [bs_append, bs_ofBs, bs_ofBs]
    rfl
  have s0 : (ofBs (decDigits m.length)).size ≤ 1000 := by rw [ofBs_size]; have := dig_len 10 m.length (Nat.lt_of_le_of_lt n6 (by decide)); omega
  have ST : Hid (∀ (w1 : World) (s1 : ByteArray), Below w.heap.size w w1 → s1 = ofBs (bs reunionW ++ decDigits m.length) → NL w (w1.alloc (.cells #[.string s1] 9)) (.slice (some ⟨w1.heap.size, 0, none⟩) 1 1) m 0) := fun w1 s1 hb1 hs => ⟨hb1.alloc hb1.size _, by
    have : (preN m 0).map ofBs = [s1] := by rw [hs]; rfl
    rw [this]
    exact World.ownsRow_lit w1 #[.string s1] 1 hb1.size (by unfold maxLen; omega) rfl⟩
  have LN : Hid (∀ W, Below w.heap.size w W → ∀ i, i < m.length → ∃ rb d, m[i]? = some d ∧ W.cell? ⟨pb, i, none⟩ = some (.pointer (some ⟨rb, 0, none⟩)) ∧ Calls Tryz.prog 73 #[.pointer (some ⟨rb, 0, none⟩), .int .i64 m.length] W fun e w' => ∃ g cap, e = .returned (.slice (some ⟨g, 0, none⟩) (d.recs.length + 1) cap) ∧ w'.ownsRow W.heap.size 9 1 (.slice (some ⟨g, 0, none⟩) (d.recs.length + 1) cap) (d.recs.length + 1) (svs ((linesD d).map ofBs)) ∧ Below W.heap.size W w') := fun W hW i hi => by
    obtain ⟨rb, mb, d, a1, _, a3, a4⟩ := (h.below hW).at i hi
    have hdm := List.mem_of_getElem? a1
    exact ⟨rb, d, a1, a3, Lines_form rb i mb d m.length n1 n6 (hm.oks d hdm) (hgn.reps i d a1) (by have := hr d hdm; omega) W a4 (hg.below hW)⟩
  have PL := hide (preN_len m hr)
  have HR := hide hr
  generalize hn : m.length = n at *
  generalize ofBs (decDigits n) = dd at *
  have q1 : ¬ 9223372036854775807 < 8 + dd.size := by omega
  clear h hb hm hgn hr hg
  go_enter Tryz.func39, Tryz.ntmps39
  go_wp2_with (go_at_call 72; refine IT.out.mono ?_; rintro e w1 ⟨rfl, hb1⟩; have c1 := HC.out w1 hb1; have N1 := hide (ST.out w1 _ hb1 E0.out); have c2 := HC.out _ N1.out.bel; clear hb1)
  clear c0 q1 s0
  go_loopw [4, 21] (fun lv iv wr => ∃ i : Nat, i ≤ n ∧ iv = .int .i64 i ∧ Hid (NL w wr lv m i)) (fun _ iv _ => n - (intOf iv).toNat)
  case atStart => exact ⟨0, Nat.zero_le _, rfl, N1⟩
  case round =>
    clear N1 c1 c2 IT E0 ST
    obtain ⟨i, hi, rfl, hN⟩ := hrel
    by_cases hlt : i < n
    · obtain ⟨rb, d, hd, hc, hL⟩ := LN.out wr hN.out.bel i hlt
      have LL := hide hL
      have hdl : d.recs.length ≤ 10000000 := HR.out d (List.mem_of_getElem? hd)
      have hpl := PL.out i (by omega)
      have NX : Hid (∀ (w3 : World) (g cap' : Nat), w3.ownsRow w.heap.size 9 1 (.slice (some ⟨g, 0, none⟩) ((preN m i).length + (d.recs.length + 1)) cap') ((preN m i).length + (d.recs.length + 1)) (svs ((preN m i).map ofBs) ++ svs ((linesD d).map ofBs)) → Below w.heap.size w w3 → NL w w3 (.slice (some ⟨g, 0, none⟩) ((preN m i).length + (d.recs.length + 1)) cap') m (i + 1)) := fun w3 g cap' ho hb3 => ⟨hb3, by
        have e1 : (preN m (i + 1)).length = (preN m i).length + (d.recs.length + 1) := by rw [preN_step m i d hd, List.length_append]; unfold linesD; simp
        have e2 : svs ((preN m (i + 1)).map ofBs) = svs ((preN m i).map ofBs) ++ svs ((linesD d).map ofBs) := by rw [preN_step m i d hd, List.map_append, svs_append]
        rw [e1, e2]
        exact ho⟩
      have hll : ((linesD d).map ofBs).length = d.recs.length + 1 := by unfold linesD; simp
      have BG : Hid (∀ w2 w3 : World, NL w w2 u4 m i → w2.grownBy w3 u4.ownBlock → Below w.heap.size w w3) := fun w2 w3 hn2 hg3 => grown_below hn2.bel hg3 (fun k hk => (World.ownsRow.lt hn2.own k hk).1)
      have OW : Hid (∀ w2 : World, NL w w2 u4 m i → w2.ownsRow w.heap.size 9 1 u4 (preN m i).length (svs ((preN m i).map ofBs))) := fun w2 hn2 => hn2.own
      generalize (preN m i).length = pl at *
      generalize (linesD d).map ofBs = ls at *
      generalize d.recs.length = dl at *
      clear hL hd
      go_wp2_with (first
        | (go_at_call 73; refine LL.out.mono ?_; rintro e w2 ⟨g2, c2, rfl, ho2, hb2⟩; have N2 := hide (hN.out.more hb2); have O2 := hide ho2; clear ho2 hb2)
        | (at_builtin; refine app_row _ rfl (.tmp 25) (.tmp 28) rfl w.heap.size u4 pl _ rfl (OW.out w2 N2.out) g2 (dl + 1) c2 wr.heap.size ls hll (by omega) rfl O2.out (by omega) (by have := N2.out.bel.size; omega) ?_; intro g3 c3 w3 ho3 hgr3 hat3 hl3; have N3 := hide (NX.out w3 g3 c3 ho3 (BG.out w2 w3 N2.out hgr3)); clear ho3 hgr3 hat3 hl3))
      go_roundw
      case rel => exact ⟨i + 1, by omega, by go_num, N3⟩
      case measure => simp [intOf]; omega
    · have ei : i = n := by omega
      subst ei
      have EL : Hid (preN m i = linesN m) := by unfold Hid; rw [← hn]; exact preN_all m
      go_wp2
      go_ret
      refine ⟨_, rfl, ?_, hN.out.bel⟩
      rw [← EL.out]
      exact hN.out.own

end Go.Proofs.YtaelaldmibgibaaGreatDoor

namespace Go.Proofs.YtaelaldmibgibaaGreatDoor
open Go.RowKit Go.Lib Go.Maps

theorem Seal_any (s : ByteArray) (hs : s.size ≤ 1000000000000) (w : World) (hg : Glob w) :
    Calls Tryz.prog 37 #[.string s] w fun e w' => e = .returned (.string (ofBs (bs s ++ lastT (bs s)))) ∧ Below w.heap.size w w' := by
  have SL := hide (sumLine_any s hs w hg)
  have hl : (ofBs (lastT (bs s))).size ≤ 1000000 := by
    rw [ofBs_size]
    unfold lastT
    have h1 : sumL (bs s) < 1000003 := by rw [sumL_bs]; exact sumTo_lt s _
    have h2 := dig_len 10 (sumL (bs s)) (Nat.lt_of_lt_of_le h1 (by decide))
    have h3 : (bs sumW).length = 4 := rfl
    simp only [List.length_append, List.length_cons, List.length_nil, h3]
    omega
  have HL : Hid (ofBs (bs s ++ lastT (bs s)) = s ++ ofBs (lastT (bs s))) := by
    unfold Hid
    apply bs_inj
    rw [bs_ofBs, bs_append, bs_ofBs]
  rw [HL.out]
  generalize ofBs (lastT (bs s)) = l at *
  have n1 : ¬ 9223372036854775807 < s.size + l.size := by omega
  clear hg HL
  go_enter Tryz.func37, Tryz.ntmps37
  go_wp2_with (go_at_call 68; refine SL.out.mono ?_; rintro e w1 ⟨rfl, hb1⟩)
  go_ret
  exact ⟨rfl, hb1⟩

theorem bs_map_ofBs (l : List Bs) : (l.map ofBs).map bs = l := by
  rw [List.map_map]
  conv => rhs; rw [← List.map_id l]
  apply List.map_congr_left
  intro x _
  exact bs_ofBs x

set_option maxHeartbeats 1000000 in
theorem Pack_any (nb pb : Nat) (rbs mbs : List Nat) (m : List DR) (w : World) (h : UNet w nb pb rbs mbs m) (hm : okNet m) (hgn : goodN m) (hr : ∀ d ∈ m, d.recs.length ≤ 10000000) (hsz : (bodyT m).length ≤ 10000000) (hg : Glob w) :
    Calls Tryz.prog 18 #[.pointer (some ⟨nb, 0, none⟩)] w fun e w' => e = .returned (.string (ofBs (packT m))) ∧ Below w.heap.size w w' := by
  have HS := hide (has_any nb m.length pb rbs 0 w h.net)
  have n1 := hm.n1
  rw [decide_eq_true (by omega : (0 : Int) ≤ 0 ∧ (0 : Int) < (m.length : Int))] at HS
  have LO := hide (linesOf_any nb pb rbs mbs m w h hm hgn hr hg)
  have hT := linesN_T m
  have hlen : (linesN m).length ≤ 100000000 := by
    rw [← preN_all m]
    have := preN_len m hr m.length hm.n6
    have := hm.n6
    omega
  have JN : Hid (∀ (W : World) (v : Value), W.ownsRow w.heap.size 9 1 v (linesN m).length (svs ((linesN m).map ofBs)) → Calls Tryz.prog 38 #[v, .string ⟨#[10]⟩] W fun e w' => e = .returned (.string (ofBs (sepBy 10 (linesN m)))) ∧ Below W.heap.size W w') := fun W v ho => by
    have hl : ((linesN m).map ofBs).length = (linesN m).length := List.length_map _
    rw [← hl] at ho
    have hs : (sepBy 10 (linesN m)).length ≤ 10000000 := by have := congrArg List.length hT; simp at this; omega
    have := join_row 10 w.heap.size v ((linesN m).map ofBs) W ho (by rw [hl]; exact hlen) (by rw [bs_map_ofBs]; omega)
    rw [bs_map_ofBs] at this
    exact this
  have EB : Hid (ofBs (sepBy 10 (linesN m)) ++ (⟨#[10]⟩ : ByteArray) = ofBs (bodyT m)) := by
    unfold Hid
    apply bs_inj
    rw [bs_append, bs_ofBs, bs_ofBs, ← hT]
    rfl
  have SE : Hid (∀ W, Below w.heap.size w W → Calls Tryz.prog 37 #[.string (ofBs (bodyT m))] W fun e w' => e = .returned (.string (ofBs (packT m))) ∧ Below W.heap.size W w') := fun W hW => by
    have := Seal_any (ofBs (bodyT m)) (by rw [ofBs_size]; omega) W (hg.below hW)
    rw [bs_ofBs] at this
    exact this
  have s1 : (ofBs (sepBy 10 (linesN m))).size ≤ 10000000 := by rw [ofBs_size]; have := congrArg List.length hT; simp at this; omega
  rw [← EB.out] at SE
  generalize ofBs (sepBy 10 (linesN m)) = jn at *
  generalize ofBs (packT m) = pk at *
  have q1 : ¬ 9223372036854775807 < jn.size + 1 := by omega
  clear hg EB hT h hm hgn hr
  go_enter Tryz.func18, Tryz.ntmps18
  go_wp2_with (first
    | (go_at_call 36; refine HS.out.mono ?_; rintro e w ⟨rfl, rfl⟩)
    | (go_at_call 39; refine LO.out.mono ?_; rintro e w1 ⟨v, rfl, ho1, hb1⟩; have O1 := hide ho1; have H1 := hide hb1; clear ho1 hb1)
    | (go_at_call 38; refine (JN.out _ _ O1.out).mono ?_; rintro e w2 ⟨rfl, hb2⟩; have H2 := hide (H1.out.trans (hb2.mono H1.out.size)); clear hb2)
    | (go_at_call 37; refine (SE.out _ H2.out).mono ?_; rintro e w3 ⟨rfl, hb3⟩; have H3 := hide (H2.out.trans (hb3.mono H2.out.size)); clear hb3))
  go_ret
  exact ⟨rfl, H3.out⟩

/-- what Unpack answers -/
def UAns (A : Option (List DR)) (lo : Nat) (w' : World) (e : Ending) : Prop := match A with
  | none => e = .returned (.tuple #[.pointer none, .int .i64 7])
  | some m => ∃ nb pb rbs mbs, e = .returned (.tuple #[.pointer (some ⟨nb, 0, none⟩), .int .i64 0]) ∧ UNet w' nb pb rbs mbs m ∧ lo ≤ pb
theorem Unpack_any (t : ByteArray) (ht : t.size ≤ 10000000) (w : World) (hg : Glob w) :
    Calls Tryz.prog 21 #[.string t] w fun e w' => UAns (netR t) w.heap.size w' e ∧ Below w.heap.size w w' := by
  have NE := hide (netOf_any t ht w hg)
  clear hg
  cases hn : netR t with
  | none =>
    rw [hn] at NE
    go_enter Tryz.func21, Tryz.ntmps21
    go_wp2_with (go_at_call 43; refine NE.out.mono ?_; rintro e w1 ⟨⟨v, rfl⟩, hb1⟩)
    go_ret2
    exact ⟨rfl, hb1⟩
  | some m =>
    rw [hn] at NE
    go_enter Tryz.func21, Tryz.ntmps21
    go_wp2_with (go_at_call 43; refine NE.out.mono ?_; rintro e w1 ⟨⟨nb, pb, rbs, mbs, rfl, hU, hlo⟩, hb1⟩; have U1 := hide hU; have UL := hide hlo; clear hU hlo)
    go_ret2
    exact ⟨⟨nb, pb, rbs, mbs, rfl, U1.out, UL.out⟩, hb1⟩

end Go.Proofs.YtaelaldmibgibaaGreatDoor
