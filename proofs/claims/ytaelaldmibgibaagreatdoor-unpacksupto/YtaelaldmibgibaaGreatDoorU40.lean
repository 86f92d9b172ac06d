/- The program's lines of a replica. -/
import Derived.Test.YtaelaldmibgibaaGreatDoorU39
import Derived.Deep.RegionLaw

set_option linter.unusedVariables false
set_option linter.unusedSimpArgs false

namespace Go.Proofs.YtaelaldmibgibaaGreatDoor
open Go.RowKit Go.Lib Go.Maps

theorem getE_of_mem {E : Recs} (hE : RisingE E) {p : ByteArray} {R : Rec} (h : (p, R) ∈ E) : getE p E = some R := by
  obtain ⟨R', hR⟩ := Option.isSome_iff_exists.1 (getE_mem h)
  simp only at hR
  rw [hR, rising_one hE (mem_getE hR) h]
theorem upT_eq {k : Nat → Int} {s : Nat} {x : Int} (h : k s = x) : upT k s x = k := by
  funext j
  unfold upT
  split
  · rename_i e; rw [e, h]
  · rfl
theorem LI.start {w w1 w2 : World} {d : DR} {a : Option Addr} {cap n : Nat} (hb1 : Below w.heap.size w w1) (s0 : ByteArray) (hs : s0 = ofBs (bs replicaW ++ timeT d.com)) (o : Obj) (hn : n = d.recs.length)
    (ho : w2.ownsRow ((w1.alloc (.cells #[.string s0] 9)).alloc o).heap.size 9 1 (.slice a n cap) n (svs (d.recs.map (·.1))))
    (hb2 : Below ((w1.alloc (.cells #[.string s0] 9)).alloc o).heap.size ((w1.alloc (.cells #[.string s0] 9)).alloc o) w2) : LI w w2 (.slice a n cap) (.slice (some ⟨w1.heap.size, 0, none⟩) 1 1) d 0 := by
  subst hn
  have hz := hb1.size
  have hb3 : Below w.heap.size w ((w1.alloc (.cells #[.string s0] 9)).alloc o) := (hb1.alloc hz _).alloc (by simp; omega) _
  have hr : w2.ownsRow w.heap.size 9 1 (.slice (some ⟨w1.heap.size, 0, none⟩) 1 1) 1 (svs [s0]) := by
    have h0 : ((w1.alloc (.cells #[.string s0] 9)).alloc o).ownsRow w.heap.size 9 1 (.slice (some ⟨w1.heap.size, 0, none⟩) 1 1) 1 (svs [s0]) := (World.ownsRow_lit w1 #[.string s0] 1 hz (by unfold maxLen; omega) rfl).alloc o
    exact ownsRow_keep h0 (fun k e => hb2.block k (World.ownsRow.lt h0 k e).2)
  refine ⟨hb3.trans (hb2.mono hb3.size), ?_, ownsRow_base ho (fun k hk => Nat.le_trans hb3.size (World.ownsRow.lt ho k hk).1), ?_⟩
  · have : ((linesD d).take (0 + 1)).map ofBs = [s0] := by rw [hs]; rfl
    rw [this]
    exact hr
  · cases a with
    | none => exact .inl rfl
    | some ad =>
      right
      intro e
      have h1 := (World.ownsRow.lt ho ad.block rfl).1
      have h2 : some ad.block = some w1.heap.size := e
      simp at h1 h2
      omega

/-- a record's copy beside the lines -/
structure LJ (w V : World) (pv lv : Value) (d : DR) (i b : Nat) (R : Rec) : Prop where
  li : LI w V pv lv d i
  rc : RecAt V b R
theorem LJ.more {w V V' : World} {pv lv : Value} {d : DR} {i b : Nat} {R : Rec} (h : LJ w V pv lv d i b R) (hb : Below V.heap.size V V') : LJ w V' pv lv d i b R :=
  ⟨h.li.more hb, ⟨by rw [hb.block b (Array.getElem?_eq_some_iff.1 h.rc.blk).1]; exact h.rc.blk⟩⟩

set_option maxRecDepth 100000 in
set_option maxHeartbeats 1000000 in
theorem Lines_any (rb s mb : Nat) (d : DR) (n : Nat) (h1 : 1 ≤ n) (h6 : n ≤ 6) (hd : d.ok n) (hgd : goodD s d) (hlen : d.recs.length < 100000000) (w : World) (h : Rp w rb s (lfn d.com) mb (toE d.recs)) (hg : Glob w) :
    Calls Tryz.prog 73 #[.pointer (some ⟨rb, 0, none⟩), .int .i64 n] w fun e w' => ∃ v, e = .returned v ∧ w'.ownsRow w.heap.size 9 1 v (d.recs.length + 1) (svs ((linesD d).map ofBs)) ∧ Below w.heap.size w w' := by
  have TC : Hid (∀ W, Below w.heap.size w W → Calls Tryz.prog 121 #[.agg #[.int .i64 (lfn d.com 0), .int .i64 (lfn d.com 1), .int .i64 (lfn d.com 2), .int .i64 (lfn d.com 3), .int .i64 (lfn d.com 4), .int .i64 (lfn d.com 5)], .int .i64 n] W fun e w' => e = .returned (.string (ofBs (timeT d.com))) ∧ Below w.heap.size w w') := fun W hW => (TimeTold_any d.com n hd.cl h1 h6 hd.cb W (hg.below hW)).mono fun e w' q => ⟨q.1, hW.trans (q.2.mono hW.size)⟩
  have s0 : (ofBs (timeT d.com)).size ≤ 1000 := by rw [ofBs_size]; have := timeT_len d.com hd.cb; have := hd.cl; omega
  have E0 : Hid ((⟨#[114, 101, 112, 108, 105, 99, 97, 32]⟩ : ByteArray) ++ ofBs (timeT d.com) = ofBs (bs replicaW ++ timeT d.com)) := by
    unfold Hid
    apply bs_inj
    rw [bs_append, bs_ofBs, bs_ofBs]
    rfl
  have PO : Hid (∀ (W : World) (o : Obj) (k : Nat), k = W.heap.size → Below w.heap.size w W → (W.alloc o).cell? ⟨k, 0, none⟩ = some (.pointer (some ⟨rb, 0, none⟩)) → Calls Tryz.prog 122 #[.slice (some ⟨k, 0, none⟩) 1 1] (W.alloc o) fun e w' => ∃ a cap, e = .returned (.slice a d.recs.length cap) ∧ w'.ownsRow (W.alloc o).heap.size 9 1 (.slice a d.recs.length cap) d.recs.length (svs (d.recs.map (·.1))) ∧ Below (W.alloc o).heap.size (W.alloc o) w') := fun W o k hkk hW hc => by
    subst hkk
    have hb : Below w.heap.size w (W.alloc o) := hW.alloc hW.size _
    have := pathsOf_form rb s (lfn d.com) mb (toE d.recs) W.heap.size (W.alloc o) (h.below hb) (by rw [toE_len]; exact hlen) hc (by simp)
    have e : (toE d.recs).map (·.1) = d.recs.map (·.1) := by unfold toE; rw [List.map_map]; rfl
    rw [toE_len, e] at this
    exact this
  have RO : Hid (∀ (W : World) (y : ByteArray × DS), y ∈ d.recs → Below w.heap.size w W → Calls Tryz.prog 104 #[.pointer (some ⟨rb, 0, none⟩), .string y.1] W fun e w' => e = .returned (recVal (toRec y.2)) ∧ Below W.heap.size W w') := fun W y hy hW => by
    have hR := h.below hW
    have hm : (y.1, toRec y.2) ∈ toE d.recs := List.mem_map.2 ⟨y, hy, rfl⟩
    have hge := getE_of_mem h.ris hm
    have hp := hd.recs.paths y hy
    have hps : y.1.size ≤ 12 := by unfold pathOk at hp; simp only [Bool.and_eq_true, decide_eq_true_eq] at hp; omega
    have hkn : (toRec y.2).kn s = lfn d.com s := by
      have := (hgd.recs y hy).2
      unfold couldB at this
      simp only [Bool.and_eq_true, decide_eq_true_eq] at this
      exact this.1
    have hk : Maps.has (datOf (toE d.recs)) (key y.1) = true := by rw [has_datOf, hge]; rfl
    have hat : (datOf (toE d.recs)).atKey (key y.1) (recDat rec0) = recDat (toRec y.2) := by rw [atKey_datOf, hge]
    have := recordOf_kept rb s (lfn d.com) mb W hR.rep (toE d.recs).length (datOf (toE d.recs)) hR.own y.1 (by unfold maxLen; omega) (toRec y.2) hk hat
    rw [upT_eq hkn] at this
    exact this
  have c1 := h.rep.ct 0 (by omega)
  have c2 := h.rep.ct 1 (by omega)
  have c3 := h.rep.ct 2 (by omega)
  have c4 := h.rep.ct 3 (by omega)
  have c5 := h.rep.ct 4 (by omega)
  have c6 := h.rep.ct 5 (by omega)
  simp only [Nat.reduceAdd] at c1 c2 c3 c4 c5 c6
  have GL : Hid (∀ W, Below w.heap.size w W → Glob W) := fun W hW => hg.below hW
  generalize ht0 : ofBs (timeT d.com) = tt at *
  generalize hrl : d.recs.length = rl at *
  have n1 : ¬ 9223372036854775807 < 8 + tt.size := by omega
  clear h hg ht0
  go_enter Tryz.func73, Tryz.ntmps73
  go_wp2_with (first
    | (go_at_call 121; refine (TC.out _ (Below.refl _ _)).mono ?_; rintro e w1 ⟨rfl, hb1⟩; have H1 := hide hb1; clear hb1)
    | (go_at_call 122; refine (PO.out _ _ (w1.heap.size + 1) (by simp) (H1.out.alloc H1.out.size _) (by simp)).mono ?_; rintro e w2 ⟨a, cap, rfl, ho2, hb2⟩; have L2 := hide (LI.start H1.out _ E0.out _ hrl.symm ho2 hb2); clear ho2 hb2))
  clear c1 c2 c3 c4 c5 c6 TC PO n1 s0 E0 H1
  go_loopw [5, 21] (fun lv iv wr => ∃ i : Nat, i ≤ rl ∧ iv = .int .i64 i ∧ Hid (LI w wr (.slice a rl cap) lv d i)) (fun _ iv _ => rl - (intOf iv).toNat)
  case atStart => exact ⟨0, Nat.zero_le _, rfl, L2⟩
  case round =>
    clear L2
    obtain ⟨i, hi, rfl, hL⟩ := hrel
    by_cases hlt : i < rl
    · obtain ⟨y, hy⟩ : ∃ y, d.recs[i]? = some y := ⟨_, List.getElem?_eq_getElem (by omega)⟩
      have hmem := List.mem_of_getElem? hy
      obtain ⟨pg, pcap, ea, _, _⟩ := World.ownsRow.form hL.out.paths (by omega)
      simp only [Value.slice.injEq] at ea
      obtain ⟨rfl, erl, rfl⟩ := ea
      clear erl
      have cp : wr.cell? ⟨pg, i, none⟩ = some (.string y.1) := by
        have hp := hL.out.paths
        rw [hrl] at hp
        rw [World.ownsRow.cellAt hp i (by omega)]
        unfold svs
        rw [List.getElem?_map, List.getElem?_map, hy]
        rfl
      have hdy := hd.recs.oks y hmem
      have hby := (hgd.recs y hmem).1
      have hpy := hd.recs.paths y hmem
      have hps : y.1.size ≤ 12 := by unfold pathOk at hpy; simp only [Bool.and_eq_true, decide_eq_true_eq] at hpy; omega
      have RC := hide (RO.out wr y hmem hL.out.bel)
      have KT : Hid (∀ V lv, LJ w V (.slice (some ⟨pg, 0, none⟩) rl cap) lv d i lv.ownBlock.isSome.toNat (toRec y.2) → True) := fun _ _ _ => trivial
      have TK : Hid (∀ V, Below w.heap.size w V → Calls Tryz.prog 121 #[.agg #[.int .i64 ((toRec y.2).kn 0), .int .i64 ((toRec y.2).kn 1), .int .i64 ((toRec y.2).kn 2), .int .i64 ((toRec y.2).kn 3), .int .i64 ((toRec y.2).kn 4), .int .i64 ((toRec y.2).kn 5)], .int .i64 n] V fun e w' => e = .returned (.string (ofBs (timeT y.2.known))) ∧ Below V.heap.size V w') := fun V hV => TimeTold_any y.2.known n hdy.kl h1 h6 hdy.kb V (GL.out V hV)
      have FK : Hid (∀ V, Below w.heap.size w V → Calls Tryz.prog 123 #[.agg #[.string (toRec y.2).text, .int .i64 (toRec y.2).br, .int .i64 (toRec y.2).bn, .int .i64 ((toRec y.2).ch 0), .int .i64 ((toRec y.2).ch 1), .int .i64 ((toRec y.2).ch 2), .int .i64 ((toRec y.2).ch 3), .int .i64 ((toRec y.2).ch 4), .int .i64 ((toRec y.2).ch 5)], .int .i64 n] V fun e w' => e = .returned (.string (ofBs y.2.fT)) ∧ Below V.heap.size V w') := fun V hV => fileTold_any y.2 n h1 h6 hdy hby V (GL.out V hV)
      have HL : Hid (y.1 ++ (⟨#[32]⟩ : ByteArray) ++ ofBs (timeT y.2.known) ++ (⟨#[32]⟩ : ByteArray) ++ ofBs y.2.fT = ofBs (recL y)) := by
        unfold Hid
        apply bs_inj
        rw [bs_append, bs_append, bs_append, bs_append, bs_ofBs, bs_ofBs, bs_ofBs, recL_fT]
        simp [bs]
      have s1 : (ofBs (timeT y.2.known)).size ≤ 1000 := by rw [ofBs_size]; have := timeT_len y.2.known hdy.kb; have := hdy.kl; omega
      have s2 : (ofBs y.2.fT).size ≤ 10000 := by
        rw [ofBs_size]
        unfold DS.fT
        split
        · rename_i ht
          obtain ⟨y1, y2, y3, y4, y5⟩ := hdy.yes ht
          have t1 := dig_len 10 y.2.by_ (Nat.lt_of_lt_of_le (by omega : y.2.by_ < 1000000000) (by decide))
          have t2 := dig_len 10 y.2.num (Nat.lt_of_le_of_lt y2 (by decide))
          have t3 := timeT_len y.2.chg y4
          have t4 := hexT_len y.2.text
          simp
          omega
        · simp
      have ST := hide (fun (V w3 : World) (lv : Value) (g' cap' : Nat) (o : Obj) (hV : LI w V (.slice (some ⟨pg, 0, none⟩) rl cap) lv d i) ho hg' hat' => hV.step hy o (w3 := w3) (g := g') (cap := cap') ho hg' hat')
      clear KT
      generalize hkt : ofBs (timeT y.2.known) = kt at *
      generalize hft : ofBs y.2.fT = ft at *
      generalize hR : toRec y.2 = R at *
      generalize hq : y.1 = q at *
      generalize hrc : ofBs (recL y) = rc at *
      have n1 : ¬ 9223372036854775807 < q.size + 1 := by omega
      have n2 : ¬ 9223372036854775807 < q.size + 1 + kt.size := by omega
      have n3 : ¬ 9223372036854775807 < q.size + 1 + kt.size + 1 := by omega
      have n4 : ¬ 9223372036854775807 < q.size + 1 + kt.size + 1 + ft.size := by omega
      have HRL := hide hrl
      have hil : i + 1 ≤ 1000000000 := by omega
      clear hkt hft hR hq hrc hdy hby hpy hmem RO hy hd hgd hlen hrl
      unfold recVal at RC
      go_wp2_with (go_at_call 104; refine RC.out.mono ?_; rintro e w2 ⟨rfl, hb2⟩; have L2 := hide (hL.out.more hb2); clear hb2; dsimp only)
      have J2 : Hid (LJ w (w2.alloc (.cells #[.string R.text, .int .i64 R.br, .int .i64 R.bn, .int .i64 (R.ch 0), .int .i64 (R.ch 1), .int .i64 (R.ch 2), .int .i64 (R.ch 3), .int .i64 (R.ch 4), .int .i64 (R.ch 5), .int .i64 (R.kn 0), .int .i64 (R.kn 1), .int .i64 (R.kn 2), .int .i64 (R.kn 3), .int .i64 (R.kn 4), .int .i64 (R.kn 5)] 197)) (.slice (some ⟨pg, 0, none⟩) rl cap) u5 d i w2.heap.size R) := ⟨L2.out.more ((Below.refl _ _).alloc (Nat.le_refl _) _), ⟨heap_alloc_new _ _⟩⟩
      generalize w2.alloc (.cells #[.string R.text, .int .i64 R.br, .int .i64 R.bn, .int .i64 (R.ch 0), .int .i64 (R.ch 1), .int .i64 (R.ch 2), .int .i64 (R.ch 3), .int .i64 (R.ch 4), .int .i64 (R.ch 5), .int .i64 (R.kn 0), .int .i64 (R.kn 1), .int .i64 (R.kn 2), .int .i64 (R.kn 3), .int .i64 (R.kn 4), .int .i64 (R.kn 5)] 197) = V at *
      generalize w2.heap.size = rbk at *
      have JD : Hid (LJ w V.drew (.slice (some ⟨pg, 0, none⟩) rl cap) u5 d i rbk R) := J2.out.more ⟨rfl, rfl, rfl, Nat.le_refl _, fun _ _ => rfl⟩
      have TKJ := hide (fun W (hW : LJ w W (.slice (some ⟨pg, 0, none⟩) rl cap) u5 d i rbk R) => (TK.out W hW.li.bel).mono fun e w' q => (⟨q.1, hW.more q.2⟩ : e = .returned (.string kt) ∧ LJ w w' (.slice (some ⟨pg, 0, none⟩) rl cap) u5 d i rbk R))
      have FKJ := hide (fun W (hW : LJ w W (.slice (some ⟨pg, 0, none⟩) rl cap) u5 d i rbk R) => (FK.out W hW.li.bel).mono fun e w' q => (⟨q.1, hW.more q.2⟩ : e = .returned (.string ft) ∧ LJ w w' (.slice (some ⟨pg, 0, none⟩) rl cap) u5 d i rbk R))
      obtain ⟨k0, k1, k2, k3, k4, k5, k6, k7, k8, k9, k10, k11, k12, k13, k14⟩ := J2.out.rc.cells
      clear TK FK L2 J2 RC cp hL
      go_region_law (first
        | (go_simp; go_at_call 121; refine (TKJ.out _ (by first | exact J4.out | exact JD.out)).mono ?_; rintro e w4 ⟨rfl, hj4⟩; have J4 := hide hj4; clear hj4; obtain ⟨q0, q1, q2, q3, q4, q5, q6, q7, q8, q9, q10, q11, q12, q13, q14⟩ := J4.out.rc.cells; dsimp only)
        | (go_simp; go_at_call 123; refine (FKJ.out _ (by first | exact J4.out | exact JD.out)).mono ?_; rintro e w4 ⟨rfl, hj4⟩; have J4 := hide hj4; clear hj4; obtain ⟨q0, q1, q2, q3, q4, q5, q6, q7, q8, q9, q10, q11, q12, q13, q14⟩ := J4.out.rc.cells; dsimp only)
        | (refine step_app_str _ rfl (.tmp 28) (.tmp 43) rfl w.heap.size u5 (i + 1) _ (by rfl) (J4.out.li.lines.alloc _) w4.heap.size rc (by rfl) (by simp [← HL.out]) (by omega) (by have := J4.out.li.bel.size; simp; omega) ?_; intro g3 c3 w5 ho3 hgr3 hat3 hl3; have N5 := hide (ST.out w4 w5 u5 g3 c3 _ J4.out.li ho3 hgr3 hat3); clear ho3 hgr3 hat3 hl3; dsimp only))
      all_goals
        go_wp2
        go_roundw
        case rel => exact ⟨i + 1, by omega, by go_num, N5⟩
        case measure => simp [intOf]; omega
    · have ei : i = rl := by omega
      subst ei
      have EL : Hid (((linesD d).take (i + 1)).map ofBs = (linesD d).map ofBs) := by
        have : (linesD d).length = i + 1 := by unfold linesD; rw [List.length_cons, List.length_map, hrl]
        unfold Hid
        rw [← this, List.take_length]
      go_wp2
      go_ret
      refine ⟨_, rfl, ?_, hL.out.bel⟩
      rw [← EL.out]
      exact hL.out.lines

end Go.Proofs.YtaelaldmibgibaaGreatDoor
