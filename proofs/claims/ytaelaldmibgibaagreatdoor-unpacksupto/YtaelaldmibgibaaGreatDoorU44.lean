/- The program's beginning of a net from a text's first line. The program's lines of a replica, and of a net, without memory. The program's verdict on a text is the document's. -/
import Derived.Test.YtaelaldmibgibaaGreatDoorU35
import Derived.Test.YtaelaldmibgibaaGreatDoorU24
import Derived.Test.YtaelaldmibgibaaGreatDoorU36
import Derived.Test.YtaelaldmibgibaaGreatDoorU38

set_option linter.unusedVariables false
set_option linter.unusedSimpArgs false

namespace Go.Proofs.YtaelaldmibgibaaGreatDoor
open Go.RowKit Go.Lib

/-- how many replicas the first line tells -/
def headR (t : Bs) : Option Nat := if hasPrefix t (bs reunionW) = true then (numR (trimPrefix t (bs reunionW))).bind fun n => if 1 ≤ n ∧ n ≤ 6 then some n else none else none
theorem prefix_iff (t p : Bs) : hasPrefix t p = true ↔ t = p ++ trimPrefix t p := by
  unfold hasPrefix trimPrefix hasPrefix
  constructor
  · intro h
    rw [if_pos h]
    obtain ⟨r, hr⟩ := List.isPrefixOf_iff_prefix.1 h
    rw [← hr, List.drop_left]
  · intro h
    rw [List.isPrefixOf_iff_prefix, h]
    exact List.prefix_append _ _
theorem headR_iff (t : Bs) (n : Nat) : headR t = some n ↔ 1 ≤ n ∧ n ≤ 6 ∧ t = bs reunionW ++ decDigits n := by
  unfold headR
  constructor
  · intro h
    split at h
    · rename_i hp
      obtain ⟨m, h1, h2⟩ := Option.bind_eq_some_iff.1 h
      split at h2
      · rename_i hc
        cases h2
        obtain ⟨_, h3⟩ := (numR_iff _ _).1 h1
        refine ⟨hc.1, hc.2, ?_⟩
        rw [← h3]
        exact (prefix_iff _ _).1 hp
      · cases h2
    · cases h
  · rintro ⟨h1, h2, rfl⟩
    have hp : hasPrefix (bs reunionW ++ decDigits n) (bs reunionW) = true := by unfold hasPrefix; rw [List.isPrefixOf_iff_prefix]; exact List.prefix_append _ _
    have e : trimPrefix (bs reunionW ++ decDigits n) (bs reunionW) = decDigits n := by unfold trimPrefix; rw [if_pos hp, List.drop_left]
    rw [if_pos hp, e, numR_told n (by omega)]
    simp [h1, h2]

theorem Prt.fzs {w0 w : World} {n : Nat} {cw : Value} {rbs mbs : List Nat} (h : Prt w0 w n cw rbs mbs) {m pb : Nat} {rs : List Nat} (hn : NetAt w w0.heap.size m pb rs) (j : Nat) : w.frozen? ⟨pb, j, none⟩ = false := by
  obtain ⟨cap, hb⟩ := hn.blk
  have e := h.net.symm.trans hb
  simp only [Option.some.injEq, Obj.cells.injEq, Array.mk.injEq, List.cons.injEq, and_true] at e
  have hc := h.c
  rw [e] at hc
  rcases hc.2 with ⟨q, _⟩ | ⟨g, cap', cur, q, _, hg, _⟩
  · cases q
  · cases q
    simp [World.frozen?, hg]
set_option maxRecDepth 100000 in
set_option maxHeartbeats 1000000 in
theorem netNew_fz (n : Nat) (w : World) (h1 : 1 ≤ n) (h6 : n ≤ 6) :
    Calls Tryz.prog 25 #[.int .i64 n] w fun e w' => e = .returned (.tuple #[.pointer (some ⟨w.heap.size, 0, none⟩), .int .i64 0]) ∧ ∃ P : PN, PNet w' w.heap.size P (newAbs n) ∧ (∀ k, P.mem w.heap.size k → w.heap.size ≤ k) ∧ Below w.heap.size w w' ∧ ∀ j, w'.frozen? ⟨P.pb, j, none⟩ = false := by
  have d1 : decide ((n : Int) < 1) = false := by simp; omega
  have d2 : decide ((6 : Int) < (n : Int)) = false := by simp; omega
  have P0 := hide (Prt.start w)
  go_enter Tryz.func25, Tryz.ntmps25
  go_wp2
  clear d1 d2
  go_loopw [15] (fun iv wr => ∃ i : Nat, i ≤ n ∧ iv = .int .i64 i ∧ ∃ cw rbs mbs, Hid (Prt w wr i cw rbs mbs)) (fun iv _ => n - (intOf iv).toNat)
  case atStart => exact ⟨0, Nat.zero_le _, rfl, _, _, _, P0⟩
  case round =>
    obtain ⟨i, hi, rfl, cw, rbs, mbs, hP⟩ := hrel
    by_cases hlt : i < n
    · obtain ⟨c0, f0, hbl⟩ := hP.out.cell
      have hbz := hP.out.below.size
      go_wp2_with fail
      go_region_law (first
        | (go_simp; go_at_call 48; refine (pnew_any i (by omega) _).mono ?_; rintro e wz ⟨rfl, hozr, hbzr, hszr⟩; have hbzz := hide (⟨hbzr.os, hbzr.tape, hbzr.output, hbzr.size, hbzr.block⟩ : Below wr.heap.size wr wz); have hoz : Hid (PRep wz (wr.heap.size + 1) i wr.heap.size 0 []) := hozr; have hsz : Hid (wz.heap.size = wr.heap.size + 2) := hszr; clear hozr hszr; have z0 : wz.cell? ⟨w.heap.size, 0, none⟩ = some cw := (hbzz.out.cell (p := ⟨w.heap.size, 0, none⟩) hbl).trans c0; have hzz := hbzz.out.size; have z3 : ∀ o, (wz.alloc o).cell? ⟨w.heap.size, 0, none⟩ = some cw := fun o => (World.cell?_alloc_old wz o ⟨w.heap.size, 0, none⟩ (by simp only; omega)).trans z0; dsimp only)
        | (refine step_app_ptr _ (by rfl) (.tmp 22) (.tmp 25) (by rfl) w.heap.size cw i (rbs.map ptr) (by rfl) ((ownsRow_keep hP.out.c (fun k hk => hbzz.out.block k (World.ownsRow.lt hP.out.c k hk).2)).alloc _) wz.heap.size ⟨wr.heap.size + 1, 0, none⟩ (by rfl) (by simp) (by omega) (by simp; omega) ?_; intro g2 cp w1 ho2 hgr2 hat2 hl2; obtain ⟨_, e2, e3⟩ := hP.out.net1 hbzz.out hgr2))
      all_goals
        have HP1 := hide (hP.out.add hbzz.out hoz.out hsz.out _ g2 cp ho2 hgr2 hat2)
        clear ho2 hgr2 hat2 hl2 e2 e3 hoz hsz hbzr z0 z3 hzz c0 f0
        generalize hW : w1.setCell ⟨w.heap.size, 0, none⟩ (.slice (some ⟨g2, 0, none⟩) (i + 1) cp) = W at *
        clear hW
        go_wp2
        go_roundw
        case rel => exact ⟨i + 1, by omega, by go_num, _, _, _, HP1⟩
        case measure => simp [intOf]; omega
    · have ei : i = n := by omega
      subst ei
      obtain ⟨P, hPN, hlo⟩ := hP.out.done h1 h6
      have HPN := hide hPN
      have HLO := hide hlo
      clear hPN hlo
      go_wp2
      go_ret2
      exact ⟨rfl, P, HPN.out, HLO.out, hP.out.below, hP.out.fzs HPN.out.net⟩

set_option maxHeartbeats 400000 in
theorem beginning_any (t : ByteArray) (ht : t.size ≤ 10000000) (w : World) (hg : Glob w) :
    Calls Tryz.prog 80 #[.string t] w fun e w' => (match headR (bs t) with
      | none => e = .returned (.tuple #[.pointer none, .bool false])
      | some n => ∃ nb P, e = .returned (.tuple #[.pointer (some ⟨nb, 0, none⟩), .bool true]) ∧ PNet w' nb P (newAbs n) ∧ (∀ k, P.mem nb k → w.heap.size ≤ k) ∧ ∀ j, w'.frozen? ⟨P.pb, j, none⟩ = false) ∧ Below w.heap.size w w' := by
  have CP : Hid (Calls Tryz.prog 143 #[.string t, .string ⟨#[114, 101, 117, 110, 105, 111, 110, 32]⟩] w fun e w' => e = .returned (.tuple #[.string (ofBs (trimPrefix (bs t) (bs reunionW))), .bool (hasPrefix (bs t) (bs reunionW))]) ∧ w' = w) := Tryz.strings_CutPrefix t reunionW w
  have hsz : (ofBs (trimPrefix (bs t) (bs reunionW))).size ≤ 10000000 := by
    rw [← bs_len, bs_ofBs]
    unfold trimPrefix
    split
    · rw [List.length_drop, bs_len]; omega
    · rw [bs_len]; omega
  have RN : Hid (Calls Tryz.prog 144 #[.string (ofBs (trimPrefix (bs t) (bs reunionW)))] w fun e w' => e = .returned (.tuple #[.int .i64 ((numR (trimPrefix (bs t) (bs reunionW))).getD 0 : Nat), .bool (numR (trimPrefix (bs t) (bs reunionW))).isSome]) ∧ Below w.heap.size w w') := by
    have := ReadNumber_any (ofBs (trimPrefix (bs t) (bs reunionW))) (by omega) w hg
    rw [bs_ofBs] at this
    exact this
  have HR : Hid (headR (bs t) = if hasPrefix (bs t) (bs reunionW) = true then (numR (trimPrefix (bs t) (bs reunionW))).bind fun n => if 1 ≤ n ∧ n ≤ 6 then some n else none else none) := rfl
  have HN : Hid (∀ n, numR (trimPrefix (bs t) (bs reunionW)) = some n → n ≤ 1000000000) := fun n h => ((numR_iff _ _).1 h).1
  generalize headR (bs t) = R at *
  generalize hasPrefix (bs t) (bs reunionW) = hp at *
  generalize numR (trimPrefix (bs t) (bs reunionW)) = nr at *
  generalize ofBs (trimPrefix (bs t) (bs reunionW)) = q at *
  clear hg
  cases hp with
  | false =>
    have e : R = none := HR.out
    subst e
    generalize (nr.getD 0 : Nat) = nv at *
    generalize nr.isSome = nb at *
    go_enter Tryz.func80, Tryz.ntmps80
    go_wp2_with (first
      | (go_at_call 143; refine (CP.out).mono ?_; rintro e w ⟨rfl, rfl⟩)
      | (go_at_call 144; refine (RN.out).mono ?_; rintro e w1 ⟨rfl, hb⟩))
    go_ret2
    exact ⟨rfl, hb⟩
  | true =>
    cases nr with
    | none =>
      have e : R = none := HR.out
      subst e
      simp only [Option.getD_none, Option.isSome_none] at RN
      go_enter Tryz.func80, Tryz.ntmps80
      go_wp2_with (first
        | (go_at_call 143; refine (CP.out).mono ?_; rintro e w ⟨rfl, rfl⟩)
        | (go_at_call 144; refine (RN.out).mono ?_; rintro e w1 ⟨rfl, hb⟩))
      go_ret2
      exact ⟨rfl, hb⟩
    | some n =>
      have hn9 := HN.out n rfl
      simp only [Option.getD_some, Option.isSome_some] at RN
      by_cases hn : 1 ≤ n ∧ n ≤ 6
      · have e : R = some n := by rw [HR.out]; simp [hn.1, hn.2]
        subst e
        have NW : Hid (∀ W, Calls Tryz.prog 25 #[.int .i64 n] W fun e w' => e = .returned (.tuple #[.pointer (some ⟨W.heap.size, 0, none⟩), .int .i64 0]) ∧ ∃ P : PN, PNet w' W.heap.size P (newAbs n) ∧ (∀ k, P.mem W.heap.size k → W.heap.size ≤ k) ∧ Below W.heap.size W w' ∧ ∀ j, w'.frozen? ⟨P.pb, j, none⟩ = false) := fun W => netNew_fz n W hn.1 hn.2
        go_enter Tryz.func80, Tryz.ntmps80
        go_wp2_with (first
          | (go_at_call 143; refine (CP.out).mono ?_; rintro e w ⟨rfl, rfl⟩)
          | (go_at_call 144; refine (RN.out).mono ?_; rintro e w1 ⟨rfl, hb⟩; have HB := hide hb; clear hb)
          | (go_at_call 25; refine (NW.out w1).mono ?_; rintro e w2 ⟨rfl, P, hP, hm, hb2, hfz⟩; have HP := hide hP; have HM := hide hm; have HB2 := hide hb2; have HZ := hide hfz; clear hP hm hb2 hfz))
        go_ret2
        exact ⟨⟨_, P, rfl, HP.out, (fun k hk => Nat.le_trans HB.out.size (HM.out k hk)), HZ.out⟩, below_step HB.out HB2.out⟩
      · have e : R = none := by rw [HR.out]; simp; omega
        subst e
        have NW : Hid (∀ W, Calls Tryz.prog 25 #[.int .i64 n] W fun e w' => e = .returned (.tuple #[.pointer none, .int .i64 1]) ∧ w' = W) := fun W => netNew_bad n W (by omega)
        go_enter Tryz.func80, Tryz.ntmps80
        go_wp2_with (first
          | (go_at_call 143; refine (CP.out).mono ?_; rintro e w ⟨rfl, rfl⟩)
          | (go_at_call 144; refine (RN.out).mono ?_; rintro e w1 ⟨rfl, hb⟩; have HB := hide hb; clear hb)
          | (go_at_call 25; refine (NW.out w1).mono ?_; rintro e w2 ⟨rfl, rfl⟩))
        go_ret2
        exact ⟨rfl, HB.out⟩

end Go.Proofs.YtaelaldmibgibaaGreatDoor

namespace Go.Proofs.YtaelaldmibgibaaGreatDoor
open Go.RowKit Go.Lib

def replW : Bs := [114, 101, 112, 108, 105, 99, 97]
def filesD (D : Drs) : Nat := (D.filter (fun y => y.2.there)).length
/-- the replica that a text begins with -/
def repR (n s : Nat) (t : Bs) : Option (Bs × DR) := match fieldsR t with
  | [a, b] => if a = replW then (timeR n b).bind fun c => (recsR n s (lfn c) ((restR t).length + 1) (restR t) ⟨#[]⟩).bind fun x => if filesD x.2 ≤ 20 then some (x.1, ⟨c, x.2⟩) else none else none
  | _ => none
/-- may a replica stand so -/
structure goodD (s : Nat) (d : DR) : Prop where
  recs : ∀ y ∈ d.recs, y.2.born ∧ couldB s (lfn d.com) (toRec y.2) = true
  files : filesD d.recs ≤ 20
theorem path_pos {p : ByteArray} (h : pathOk p = true) : slt ⟨#[]⟩ p = true := by
  unfold pathOk at h
  simp only [Bool.and_eq_true, decide_eq_true_eq] at h
  have hs : 0 < (bs p).length := by rw [bs_len]; omega
  have e : (⟨#[]⟩ : ByteArray).toList = [] := by rw [ByteArray.toList_eq]
  unfold slt
  rw [e, ByteArray.toList_eq]
  show Op.bytesLess [] (bs p) = true
  cases hb : bs p with
  | nil => rw [hb] at hs; simp at hs
  | cons x l => rfl
theorem rep_line (d : DR) (R : Bs) : lineR (d.T ++ R) = sepBy 32 [replW, timeT d.com] ∧ restR (d.T ++ R) = drsT d.recs ++ R ∧ fieldsR (d.T ++ R) = [replW, timeT d.com] := by
  have hno : ∀ q ∈ [replW, timeT d.com], (10 : UInt8) ∉ q ∧ (32 : UInt8) ∉ q := fun q hq => by
    simp only [List.mem_cons, List.not_mem_nil, or_false] at hq
    rcases hq with rfl | rfl
    · decide
    · exact timeT_no _
  have e : d.T ++ R = sepBy 32 [replW, timeT d.com] ++ 10 :: (drsT d.recs ++ R) := by
    unfold DR.T
    simp [sepBy, replW, replicaW, bs]
  have hl := line_of (sepBy 32 [replW, timeT d.com]) (drsT d.recs ++ R) (sepBy_no 32 10 (by decide) _ (fun q hq => (hno q hq).1))
  rw [← e] at hl
  refine ⟨hl.1, hl.2, ?_⟩
  unfold fieldsR
  rw [hl.1]
  exact fields_of _ (by simp) (by simp) (fun q hq => (hno q hq).2)
theorem repR_iff (n s : Nat) (hn : 1 ≤ n) (h6 : n ≤ 6) (t : Bs) (R : Bs) (d : DR) (hnl : nlEnd t) : repR n s t = some (R, d) ↔ t = d.T ++ R ∧ blanks R < 2 ∧ d.ok n ∧ goodD s d := by
  constructor
  · intro h
    unfold repR at h
    split at h
    · rename_i a b hf
      split at h
      · rename_i ha
        obtain ⟨c, hc, h⟩ := Option.bind_eq_some_iff.1 h
        obtain ⟨x, hx, h⟩ := Option.bind_eq_some_iff.1 h
        obtain ⟨R', D⟩ := x
        split at h
        · rename_i h20
          cases h
          obtain ⟨c1, c2, rfl⟩ := (timeR_iff n hn b c).1 hc
          obtain ⟨i1, i2, i3, i4, i5⟩ := (recsR_iff n s hn h6 (lfn c) _ _ _ _ _ (nl_rest hnl) (by omega)).1 hx
          have hj := fields_join t
          have ht0 : t ≠ [] := by
            rintro rfl
            rw [hf, ha] at hj
            unfold replW at hj
            simp [sepBy] at hj
            rcases line_cases [] with ⟨q, _, _⟩ | ⟨q, _⟩
            · rw [q] at hj; cases hj
            · simp at q
          obtain ⟨q1, q2⟩ := nl_line hnl ht0
          refine ⟨?_, i2, ⟨c1, c2, i3⟩, ⟨i4, h20⟩⟩
          rw [hf, ha] at hj
          rw [← hj] at q1
          rw [q1, i1]
          unfold DR.T
          simp [sepBy, replW, replicaW, bs]
        · cases h
      · cases h
    · cases h
  · rintro ⟨rfl, h2, h3, h4⟩
    obtain ⟨l1, l2, l3⟩ := rep_line d R
    unfold repR
    rw [l3]
    simp only [if_true]
    have hn2 : nlEnd (drsT d.recs ++ R) := by
      rw [← l2]
      exact nl_rest hnl
    rw [(timeR_iff n hn _ d.com).2 ⟨h3.cl, h3.cb, rfl⟩, l2]
    simp only [Option.bind_some]
    rw [(recsR_iff n s hn h6 (lfn d.com) _ _ _ R d.recs hn2 (by omega)).2 ⟨rfl, h2, h3.recs, h4.recs, fun y hy => path_pos (h3.recs.paths y hy)⟩]
    simp only [Option.bind_some]
    rw [if_pos h4.files]

def repsR (n : Nat) : Nat → Nat → Bs → Option (Bs × List DR)
  | 0, _, t => some (t, [])
  | k + 1, s, t => (repR n s t).bind fun x => (repsR n k (s + 1) x.1).map fun y => (y.1, x.2 :: y.2)
theorem blanks_reps (m : List DR) : blanks (repsT m) < 2 := by
  cases m with
  | nil => simp [repsT, blanks]
  | cons d m => rw [repsT_cons]; exact blanks_rep d _
theorem repsR_iff (n : Nat) (hn : 1 ≤ n) (h6 : n ≤ 6) : ∀ (k s : Nat) (t : Bs) (m : List DR), nlEnd t → (repsR n k s t = some ([], m) ↔ m.length = k ∧ t = repsT m ∧ ∀ (i : Nat) d, m[i]? = some d → d.ok n ∧ goodD (s + i) d) := by
  intro k
  induction k with
  | zero =>
    intro s t m _
    unfold repsR
    constructor
    · intro h
      cases h
      exact ⟨rfl, rfl, by simp⟩
    · rintro ⟨h1, h2, _⟩
      have : m = [] := List.length_eq_zero_iff.1 h1
      subst this
      rw [h2]
      rfl
  | succ k ih =>
    intro s t m hnl
    unfold repsR
    constructor
    · intro h
      obtain ⟨x, hx, h⟩ := Option.bind_eq_some_iff.1 h
      obtain ⟨y, hy, h⟩ := Option.map_eq_some_iff.1 h
      obtain ⟨R, d⟩ := x
      obtain ⟨R', m'⟩ := y
      simp only [Prod.mk.injEq] at h
      obtain ⟨rfl, rfl⟩ := h
      obtain ⟨a1, a2, a3, a4⟩ := (repR_iff n s hn h6 t R d hnl).1 hx
      obtain ⟨b1, b2, b3⟩ := (ih (s + 1) R m' (nl_drop (a := d.T) (by rw [← a1]; exact hnl))).1 hy
      refine ⟨by simp [b1], by rw [a1, b2, repsT_cons], fun i e he => ?_⟩
      cases i with
      | zero => simp at he; subst he; exact ⟨a3, a4⟩
      | succ i =>
        have := b3 i e (by simpa using he)
        rw [show s + 1 + i = s + (i + 1) by omega] at this
        exact this
    · rintro ⟨h1, rfl, h3⟩
      cases m with
      | nil => simp at h1
      | cons d m =>
        rw [repsT_cons] at hnl ⊢
        have hd := h3 0 d (by simp)
        rw [(repR_iff n s hn h6 _ (repsT m) d hnl).2 ⟨rfl, blanks_reps m, hd.1, hd.2⟩]
        simp only [Option.bind_some]
        rw [(ih (s + 1) (repsT m) m (nl_drop hnl)).2 ⟨by simpa using h1, rfl, fun i e he => by
          have := h3 (i + 1) e (by simpa using he)
          rw [show s + (i + 1) = s + 1 + i by omega] at this
          exact this⟩]
        rfl

/-- what each replica has counted -/
def cntF (m : List DR) (j : Nat) : Int := match m[j]? with
  | some d => lfn d.com j
  | none => 0
def inB (C : Nat → Int) (d : DR) : Bool := d.recs.all (fun y => leB (lfn y.2.known) C) && leB (lfn d.com) C
/-- the net that a text tells -/
def netR (t : ByteArray) : Option (List DR) := (unsealR t).bind fun b => (headR (lineR b)).bind fun n => (repsR n n 0 (restR b)).bind fun x => if x.1 = [] ∧ x.2.all (inB (cntF x.2)) = true then some x.2 else none
structure goodN (m : List DR) : Prop where
  reps : ∀ (i : Nat) d, m[i]? = some d → goodD i d
  ins : m.all (inB (cntF m)) = true
theorem body_nl (m : List DR) : nlEnd (bodyT m) := by
  have hT : ∀ d : DS, ∃ a, d.T = a ++ [10] := fun d => by
    have := flds_T [] d
    exact ⟨sepBy 32 ([] :: d.flds), by simpa using this⟩
  have h1 : ∀ D : Drs, nlEnd (drsT D) := fun D => by
    induction D with
    | nil => exact .inl rfl
    | cons y D ih =>
      obtain ⟨p, d⟩ := y
      rw [drsT_cons]
      obtain ⟨a, ha⟩ := hT d
      rcases ih with h | ⟨b, h⟩
      · rw [h, ha]; exact .inr ⟨bs p ++ a, by simp⟩
      · rw [h]; exact .inr ⟨bs p ++ (d.T ++ b), by simp⟩
  have h2 : ∀ l : List DR, nlEnd (repsT l) := fun l => by
    induction l with
    | nil => exact .inl rfl
    | cons d l ih =>
      rw [repsT_cons]
      rcases ih with h | ⟨b, h⟩
      · rw [h]
        unfold DR.T
        rcases h1 d.recs with h | ⟨b, h⟩
        · rw [h]; exact .inr ⟨bs replicaW ++ timeT d.com, by simp⟩
        · rw [h]; exact .inr ⟨bs replicaW ++ (timeT d.com ++ (10 :: b)), by simp⟩
      · rw [h]; exact .inr ⟨d.T ++ b, by simp⟩
  unfold bodyT
  rcases h2 m with h | ⟨b, h⟩
  · rw [h]; exact .inr ⟨bs reunionW ++ decDigits m.length, by simp⟩
  · rw [h]; exact .inr ⟨bs reunionW ++ (decDigits m.length ++ (10 :: b)), by simp⟩
theorem head_no (n : Nat) : (10 : UInt8) ∉ bs reunionW ++ decDigits n := fun h => by
  rcases List.mem_append.1 h with h | h
  · exact absurd h (by decide)
  · exact dig_no n 10 (by decide) h
theorem netR_iff (t : ByteArray) (m : List DR) : netR t = some m ↔ okNet m ∧ bs t = packT m ∧ goodN m := by
  unfold netR
  constructor
  · intro h
    obtain ⟨b, hb, h⟩ := Option.bind_eq_some_iff.1 h
    obtain ⟨n, hn, h⟩ := Option.bind_eq_some_iff.1 h
    obtain ⟨x, hx, h⟩ := Option.bind_eq_some_iff.1 h
    obtain ⟨R, m'⟩ := x
    split at h
    · rename_i hc
      cases h
      obtain ⟨rfl, hc⟩ := hc
      obtain ⟨u1, u2⟩ := (unsealR_iff t b).1 hb
      obtain ⟨n1, n6, hl⟩ := (headR_iff _ n).1 hn
      have hb0 : b ≠ [] := by
        rintro rfl
        rcases line_cases [] with ⟨q, _, _⟩ | ⟨q, _⟩
        · rw [q] at hl
          have := congrArg List.length hl
          simp [reunionW, bs] at this
        · simp at q
      obtain ⟨r1, r2, r3⟩ := (repsR_iff n n1 n6 n 0 (restR b) _ (nl_rest u2)).1 hx
      simp only at r1 r2 r3 hc
      obtain ⟨q1, q2⟩ := nl_line u2 hb0
      have eb : b = bodyT m' := by
        rw [q1, hl, r2, ← r1]
        unfold bodyT
        simp
      refine ⟨⟨by simp only; omega, by simp only; omega, fun d hd => ?_⟩, ?_, ⟨fun i d hi => by have := (r3 i d hi).2; rw [Nat.zero_add] at this; exact this, hc⟩⟩
      · obtain ⟨i, hi⟩ := List.getElem?_of_mem hd
        simp only
        rw [r1]
        exact (r3 i d hi).1
      · unfold packT
        rw [← eb]
        exact u1
    · cases h
  · rintro ⟨h1, h2, h3⟩
    rw [(unsealR_iff t (bodyT m)).2 ⟨h2, body_nl m⟩]
    simp only [Option.bind_some]
    have hl := line_of (bs reunionW ++ decDigits m.length) (repsT m) (head_no _)
    have e : bs reunionW ++ decDigits m.length ++ 10 :: repsT m = bodyT m := by unfold bodyT; simp
    rw [e] at hl
    rw [hl.1, hl.2, (headR_iff _ m.length).2 ⟨h1.n1, h1.n6, rfl⟩]
    simp only [Option.bind_some]
    have hnl : nlEnd (repsT m) := nl_drop (a := bs reunionW ++ decDigits m.length ++ [10]) (by have := body_nl m; rw [← e] at this; simpa using this)
    rw [(repsR_iff m.length h1.n1 h1.n6 m.length 0 (repsT m) m hnl).2 ⟨rfl, rfl, fun i d hi => ⟨h1.oks d (List.mem_of_getElem? hi), by rw [Nat.zero_add]; exact h3.reps i d hi⟩⟩]
    simp only [Option.bind_some]
    rw [if_pos ⟨trivial, h3.ins⟩]

end Go.Proofs.YtaelaldmibgibaaGreatDoor

namespace Go.Proofs.YtaelaldmibgibaaGreatDoor
open Go.RowKit Go.Lib

theorem getD_zero {α : Type} (l : List α) (j : Nat) (d : α) (h : l.length ≤ j) : l.getD j d = d := by
  rw [List.getD_eq_getElem?_getD, List.getElem?_eq_none h]
  rfl
theorem ints_getD (l : List Nat) (j : Nat) : (ints l).getD j 0 = lfn l j := by
  unfold ints lfn
  rw [List.getD_eq_getElem?_getD, List.getD_eq_getElem?_getD, List.getElem?_map]
  cases l[j]? <;> rfl
theorem lfn_pos (l : List Nat) (j : Nat) : 0 ≤ lfn l j := by unfold lfn; omega
theorem eqT_iff (a b : Nat → Int) : eqT a b = true ↔ ∀ j, j < 6 → a j = b j := by
  unfold eqT
  simp only [Bool.and_eq_true, beq_iff_eq]
  constructor
  · rintro ⟨h0, h1, h2, h3, h4, h5⟩ j hj
    match j, hj with
    | 0, _ => exact h0
    | 1, _ => exact h1
    | 2, _ => exact h2
    | 3, _ => exact h3
    | 4, _ => exact h4
    | 5, _ => exact h5
  · intro h
    exact ⟨h 0 (by omega), h 1 (by omega), h 2 (by omega), h 3 (by omega), h 4 (by omega), h 5 (by omega)⟩
theorem leB_iff (a b : Nat → Int) (hb : ∀ j, 0 ≤ b j) : leB a b = true ↔ ∀ j, j < 6 → a j ≤ b j := by
  unfold leB
  rw [eqT_iff]
  have h : ∀ j, gboth a b j = b j ↔ a j ≤ b j := fun j => by
    have := hb j
    unfold gboth g1 zer
    split <;> split at * <;> omega
  exact ⟨fun q j hj => (h j).1 (q j hj), fun q j hj => (h j).2 (q j hj)⟩
/-- number by number, of lists -/
theorem le_wIn (l : List Nat) (hl : l.length ≤ 6) (C : List Int) (c : Nat → Int) (hC : ∀ j, j < l.length → C.getD j 0 = c j) (hc : ∀ j, 0 ≤ c j) : leB (lfn l) c = true ↔ wIn (ints l) C := by
  rw [leB_iff _ _ hc]
  unfold wIn
  have hil : (ints l).length = l.length := by simp [ints]
  rw [hil]
  constructor
  · intro h j hj
    rw [ints_getD, hC j hj]
    exact h j (by omega)
  · intro h j _
    by_cases hj : j < l.length
    · have := h j hj
      rw [ints_getD, hC j hj] at this
      exact this
    · have e : lfn l j = 0 := by unfold lfn; rw [getD_zero _ _ _ (by omega)]; rfl
      rw [e]
      exact hc j
theorem ints_inj {a b : List Nat} (h : ints a = ints b) : a = b := by
  unfold ints at h
  exact List.map_inj_right (fun x y h => by omega) |>.1 h
theorem lfn_eq (a b : List Nat) (ha : a.length = b.length) (h6 : a.length ≤ 6) : eqT (lfn a) (lfn b) = true ↔ a = b := by
  rw [eqT_iff]
  constructor
  · intro h
    apply List.ext_getElem ha
    intro j h1 h2
    have := h j (by omega)
    unfold lfn at this
    rw [List.getD_eq_getElem?_getD, List.getD_eq_getElem?_getD, List.getElem?_eq_getElem h1, List.getElem?_eq_getElem h2] at this
    simp only [Option.getD_some] at this
    omega
  · rintro rfl j _
    rfl

section
variable {M : Mt} {m : List DR} {dr : DR}
theorem cnts_at (h : isDRs M m) (j : Nat) (hj : j < m.length) : (cntsM M).getD j 0 = cntF m j := by
  have hl := h.1
  unfold cntsM cntF
  rw [List.getD_eq_getElem?_getD, List.getElem?_map, List.getElem?_range (by omega)]
  simp only [Option.map_some, Option.getD_some]
  have e1 := List.getElem?_eq_getElem (l := M) (i := j) (by omega)
  have e2 := List.getElem?_eq_getElem (l := m) (i := j) hj
  have := (h.2 j _ _ e1 e2).1
  rw [e1, e2]
  simp only [Option.getD_some]
  rw [this, ints_getD]
theorem cntF_pos (m : List DR) (j : Nat) : 0 ≤ cntF m j := by
  unfold cntF
  split
  · exact lfn_pos _ _
  · exact Int.le_refl _
theorem isDrs_mem {L : Rds} {D : Drs} (h : isDrs L D) : (∀ x ∈ L, ∃ y ∈ D, x.1 = y.1 ∧ x.2.is y.2) ∧ (∀ y ∈ D, ∃ x ∈ L, x.1 = y.1 ∧ x.2.is y.2) := by
  have hl : L.length = D.length := by have := congrArg List.length h.1; simpa using this
  have hp : ∀ (i : Nat) a b, L[i]? = some a → D[i]? = some b → a.1 = b.1 := fun i a b ha hb => by
    have := congrArg (fun l => l[i]?) h.1
    simp only [List.getElem?_map, ha, hb, Option.map_some] at this
    exact Option.some.inj this
  constructor
  · intro x hx
    obtain ⟨i, hi⟩ := List.getElem?_of_mem hx
    have hi' := (List.getElem?_eq_some_iff.1 hi).1
    have hd := List.getElem?_eq_getElem (l := D) (i := i) (by omega)
    exact ⟨_, List.mem_of_getElem? hd, hp i _ _ hi hd, h.2 i _ _ hi hd⟩
  · intro y hy
    obtain ⟨i, hi⟩ := List.getElem?_of_mem hy
    have hi' := (List.getElem?_eq_some_iff.1 hi).1
    have hd := List.getElem?_eq_getElem (l := L) (i := i) (by omega)
    exact ⟨_, List.mem_of_getElem? hd, hp i _ _ hd hi, h.2 i _ _ hd hi⟩
theorem isDrs_files {L : Rds} {D : Drs} (h : isDrs L D) : (L.filter (·.2.there)).length = filesD D := by
  unfold filesD
  have hl : L.length = D.length := by have := congrArg List.length h.1; simpa using this
  have h2 := h.2
  clear h
  induction L generalizing D with
  | nil =>
    have : D = [] := List.length_eq_zero_iff.1 hl.symm
    rw [this]
    rfl
  | cons x L ih =>
    cases D with
    | nil => simp at hl
    | cons y D =>
      have h0 := (h2 0 x y rfl rfl).1
      have I := ih (D := D) (by simpa using hl) (fun i a b ha hb => h2 (i + 1) a b (by simpa using ha) (by simpa using hb))
      simp only [List.filter_cons, h0]
      split
      · simp [I]
      · exact I

/-- a record, by both -/
theorem may_could {n q : Nat} {x : SpR} {d : DS} {com : List Nat} (hx : x.is d) (hd : d.ok n) (hn : n ≤ 6) (hc : com.length = n) (hm : m.length = n) (hM : isDRs M m) (hq : m[q]? = some dr) (hqc : dr.com = com) :
    mayR q (cntsM M) (ints com) x = true ↔ (d.born ∧ couldB q (lfn com) (toRec d) = true) ∧ leB (lfn d.known) (cntF m) = true := by
  obtain ⟨e1, e2, e3, e4, e5, e6⟩ := hx
  have hql : q < n := by have := (List.getElem?_eq_some_iff.1 hq).1; omega
  have hC : ∀ j, j < d.known.length → (cntsM M).getD j 0 = cntF m j := fun j hj => cnts_at hM j (by rw [hd.kl] at hj; omega)
  have hcq : cntF m q = lfn com q := by unfold cntF; rw [hq]; simp only; rw [hqc]
  have w1 := le_wIn d.known (by rw [hd.kl]; exact hn) (cntsM M) (cntF m) hC (cntF_pos m)
  have gch : eqT (gboth (lfn d.chg) (lfn d.known)) (lfn d.known) = leB (lfn d.chg) (lfn d.known) := rfl
  unfold mayR couldB toRec
  simp only
  rw [e1, e3, e4, e5, e6, ints_getD, cnts_at hM q (by omega), hcq, gch]
  simp only [Bool.and_eq_true, decide_eq_true_eq, beq_iff_eq, wInD_iff]
  cases ht : d.there with
  | true =>
    obtain ⟨y1, y2, y3, y4, y5⟩ := hd.yes ht
    have w2 := le_wIn d.chg (by omega) (ints d.known) (lfn d.known) (fun j _ => ints_getD _ _) (lfn_pos _)
    have eb : (ints d.chg).getD d.by_ 0 = ((d.chg.getD d.by_ 0 : Nat) : Int) := by rw [ints_getD]; rfl
    rw [eb]
    simp only [if_true, Bool.and_eq_true, decide_eq_true_eq, wInD_iff]
    rw [← w1, ← w2]
    unfold DS.born
    constructor
    · rintro ⟨⟨a1, a2⟩, ⟨a3, a4⟩, a5⟩
      exact ⟨⟨fun _ => ⟨by omega, by omega⟩, a2, a5, by simp; omega⟩, a1⟩
    · rintro ⟨⟨a1, a2, a3, a4⟩, a5⟩
      have := a1 ht
      exact ⟨⟨a5, a2⟩, ⟨by omega, by omega⟩, a3⟩
  | false =>
    obtain ⟨y1, y2, y3, y4⟩ := hd.none ht
    have hz : leB (lfn d.chg) (lfn d.known) = true := by
      rw [leB_iff _ _ (lfn_pos _)]
      intro j _
      have : lfn d.chg j = 0 := by
        unfold lfn
        rw [y3, List.getD_eq_getElem?_getD, List.getElem?_replicate]
        split <;> rfl
      rw [this]
      exact lfn_pos _ _
    have hk := lfn_eq d.known com (by rw [hd.kl, hc]) (by rw [hd.kl]; exact hn)
    have hi : ints d.known = ints com ↔ d.known = com := ⟨ints_inj, fun e => by rw [e]⟩
    rw [hz, y2]
    rw [if_neg (by decide)]
    simp only [Bool.not_eq_true', decide_eq_false_iff_not]
    rw [← w1]
    have hb : d.born := fun q => by rw [ht] at q; cases q
    have ek : (!eqT (lfn d.known) (lfn com)) = true ↔ ¬ d.known = com := by
      rw [← hk]
      cases eqT (lfn d.known) (lfn com) <;> simp
    constructor
    · rintro ⟨⟨a1, a2⟩, a3⟩
      exact ⟨⟨hb, a2, trivial, by simp only [Bool.or_eq_true]; exact .inr (ek.2 (fun e => a3 (hi.2 e)))⟩, a1⟩
    · rintro ⟨⟨_, a2, _, a3⟩, a1⟩
      refine ⟨⟨a1, a2⟩, fun e => ?_⟩
      simp only [Bool.or_eq_true] at a3
      rcases a3 with a3 | a3
      · exact absurd a3 (by simp)
      · exact ek.1 a3 (hi.1 e)

theorem good_iff (hm : okNet m) (h : isDRs M m) : (recsOk M ∧ repsOk M) ↔ goodN m := by
  have hl := h.1
  have key : ∀ (q : Nat) a d, M[q]? = some a → m[q]? = some d → ((∀ y ∈ a.2, mayR q (cntsM M) a.1 y.2 = true) ∧ (wIn a.1 (cntsM M) ∧ (a.2.filter (·.2.there)).length ≤ 20) ↔ goodD q d ∧ inB (cntF m) d = true) := fun q a d ha hd => by
    obtain ⟨i1, i2⟩ := h.2 q a d ha hd
    have hdm := hm.oks d (List.mem_of_getElem? hd)
    have n6 := hm.n6
    obtain ⟨j1, j2⟩ := isDrs_mem i2
    have w := le_wIn d.com (by rw [hdm.cl]; exact n6) (cntsM M) (cntF m) (fun j hj => cnts_at h j (by rw [hdm.cl] at hj; exact hj)) (cntF_pos m)
    rw [i1, isDrs_files i2, ← w]
    unfold inB
    simp only [Bool.and_eq_true, List.all_eq_true]
    constructor
    · rintro ⟨a1, a2, a3⟩
      have a1' : ∀ y ∈ d.recs, (y.2.born ∧ couldB q (lfn d.com) (toRec y.2) = true) ∧ leB (lfn y.2.known) (cntF m) = true := fun y hy => by
        obtain ⟨x, hx, _, hxy⟩ := j2 y hy
        exact (may_could hxy (hdm.recs.oks y hy) n6 hdm.cl rfl h hd rfl).1 (a1 x hx)
      exact ⟨⟨fun y hy => (a1' y hy).1, a3⟩, fun y hy => (a1' y hy).2, a2⟩
    · rintro ⟨⟨a1, a3⟩, a4, a2⟩
      refine ⟨fun x hx => ?_, a2, a3⟩
      obtain ⟨y, hy, _, hxy⟩ := j1 x hx
      exact (may_could hxy (hdm.recs.oks y hy) n6 hdm.cl rfl h hd rfl).2 ⟨a1 y hy, a4 y hy⟩
  constructor
  · rintro ⟨h1, h2⟩
    have hk : ∀ (q : Nat) d, m[q]? = some d → goodD q d ∧ inB (cntF m) d = true := fun q d hd => by
      have hq := (List.getElem?_eq_some_iff.1 hd).1
      have ha := List.getElem?_eq_getElem (l := M) (i := q) (by omega)
      exact (key q _ d ha hd).1 ⟨h1 q _ ha, h2 q _ ha⟩
    refine ⟨fun q d hd => (hk q d hd).1, ?_⟩
    rw [List.all_eq_true]
    intro d hd
    obtain ⟨q, hq⟩ := List.getElem?_of_mem hd
    exact (hk q d hq).2
  · intro g
    have hk : ∀ (q : Nat) a, M[q]? = some a → (∀ y ∈ a.2, mayR q (cntsM M) a.1 y.2 = true) ∧ (wIn a.1 (cntsM M) ∧ (a.2.filter (·.2.there)).length ≤ 20) := fun q a ha => by
      have hq := (List.getElem?_eq_some_iff.1 ha).1
      have hd := List.getElem?_eq_getElem (l := m) (i := q) (by omega)
      exact (key q a _ ha hd).2 ⟨g.reps q _ hd, List.all_eq_true.1 g.ins _ (List.mem_of_getElem? hd)⟩
    exact ⟨fun q a ha => (hk q a ha).1, fun q a ha => (hk q a ha).2⟩
end

theorem docOk_net (t : ByteArray) : docOk t ↔ (netR t).isSome = true := by
  unfold docOk
  constructor
  · rintro ⟨h1, h2⟩
    obtain ⟨m, hm, _, e, hM⟩ := text_got t h1
    rw [(netR_iff t m).2 ⟨hm, e, (good_iff hm hM).1 h2⟩]
    rfl
  · intro h
    obtain ⟨m, hm⟩ := Option.isSome_iff_exists.1 h
    obtain ⟨h1, h2, h3⟩ := (netR_iff t m).1 hm
    obtain ⟨t1, _, t3⟩ := text_of t m h1 h2
    exact ⟨t1, (good_iff h1 t3).2 h3⟩

end Go.Proofs.YtaelaldmibgibaaGreatDoor
