/- The program's Seal, Pack, Unpack. The document's Unpack: one more replica. The document's answer in memory: a whole spot is put into its place. The document's Unpack: the net beside what was read, of which some is put into its place. The document's Unpack: what stands in the net's rows while records are put. -/
import Derived.Test.YtaelaldmibgibaaGreatDoorU41
import Derived.Test.YtaelaldmibgibaaGreatDoorU42
import Derived.Test.YtaelaldmibgibaaGreatDoorU20
import Derived.Test.YtaelaldmibgibaaGreatDoorU05
import Derived.Test.YtaelaldmibgibaaGreatDoorU17

set_option linter.unusedVariables false
set_option linter.unusedSimpArgs false

namespace Go.Proofs.YtaelaldmibgibaaGreatDoor
open Go.RowKit Go.Lib Go.Maps

theorem Seal_any (s : ByteArray) (hs : s.size ≤ 1000000000000) (w : World) (hg : Glob w) :
    Calls Tryz.prog 37 #[.string s] w fun e w' => e = .returned (.string (ofBs (bs s ++ lastT (bs s)))) ∧ Below w.heap.size w w' := by
  have SL := hide (sumLine_any s hs w hg)
  have hl : (ofBs (lastT (bs s))).size ≤ 1000000 := by
    rw [ofBs_size]
    unfold lastT
    have h1 : sumL (bs s) < 1000003 := by rw [sumL_bs]; exact sumTo_lt s _
    have h2 := dig_len 10 (sumL (bs s)) (Nat.lt_of_lt_of_le h1 (by decide))
    have h3 : (bs sumW).length = 4 := rfl
    simp only [List.length_append, List.length_cons, List.length_nil, h3]
    omega
  have HL : Hid (ofBs (bs s ++ lastT (bs s)) = s ++ ofBs (lastT (bs s))) := by
    unfold Hid
    apply bs_inj
    rw [bs_ofBs, bs_append, bs_ofBs]
  rw [HL.out]
  generalize ofBs (lastT (bs s)) = l at *
  have n1 : ¬ 9223372036854775807 < s.size + l.size := by omega
  clear hg HL
  go_enter Tryz.func37, Tryz.ntmps37
  go_wp2_with (go_at_call 68; refine SL.out.mono ?_; rintro e w1 ⟨rfl, hb1⟩)
  go_ret
  exact ⟨rfl, hb1⟩

theorem bs_map_ofBs (l : List Bs) : (l.map ofBs).map bs = l := by
  rw [List.map_map]
  conv => rhs; rw [← List.map_id l]
  apply List.map_congr_left
  intro x _
  exact bs_ofBs x

set_option maxHeartbeats 1000000 in
theorem Pack_any (nb pb : Nat) (rbs mbs : List Nat) (m : List DR) (w : World) (h : UNet w nb pb rbs mbs m) (hm : okNet m) (hgn : goodN m) (hr : ∀ d ∈ m, d.recs.length ≤ 10000000) (hsz : (bodyT m).length ≤ 10000000) (hg : Glob w) :
    Calls Tryz.prog 18 #[.pointer (some ⟨nb, 0, none⟩)] w fun e w' => e = .returned (.string (ofBs (packT m))) ∧ Below w.heap.size w w' := by
  have HS := hide (has_any nb m.length pb rbs 0 w h.net)
  have n1 := hm.n1
  rw [decide_eq_true (by omega : (0 : Int) ≤ 0 ∧ (0 : Int) < (m.length : Int))] at HS
  have LO := hide (linesOf_any nb pb rbs mbs m w h hm hgn hr hg)
  have hT := linesN_T m
  have hlen : (linesN m).length ≤ 100000000 := by
    rw [← preN_all m]
    have := preN_len m hr m.length hm.n6
    have := hm.n6
    omega
  have JN : Hid (∀ (W : World) (v : Value), W.ownsRow w.heap.size 9 1 v (linesN m).length (svs ((linesN m).map ofBs)) → Calls Tryz.prog 38 #[v, .string ⟨#[10]⟩] W fun e w' => e = .returned (.string (ofBs (sepBy 10 (linesN m)))) ∧ Below W.heap.size W w') := fun W v ho => by
    have hl : ((linesN m).map ofBs).length = (linesN m).length := List.length_map _
    rw [← hl] at ho
    have hs : (sepBy 10 (linesN m)).length ≤ 10000000 := by have := congrArg List.length hT; simp at this; omega
    have := join_row 10 w.heap.size v ((linesN m).map ofBs) W ho (by rw [hl]; exact hlen) (by rw [bs_map_ofBs]; omega)
    rw [bs_map_ofBs] at this
    exact this
  have EB : Hid (ofBs (sepBy 10 (linesN m)) ++ (⟨#[10]⟩ : ByteArray) = ofBs (bodyT m)) := by
    unfold Hid
    apply bs_inj
    rw [bs_append, bs_ofBs, bs_ofBs, ← hT]
    rfl
  have SE : Hid (∀ W, Below w.heap.size w W → Calls Tryz.prog 37 #[.string (ofBs (bodyT m))] W fun e w' => e = .returned (.string (ofBs (packT m))) ∧ Below W.heap.size W w') := fun W hW => by
    have := Seal_any (ofBs (bodyT m)) (by rw [ofBs_size]; omega) W (hg.below hW)
    rw [bs_ofBs] at this
    exact this
  have s1 : (ofBs (sepBy 10 (linesN m))).size ≤ 10000000 := by rw [ofBs_size]; have := congrArg List.length hT; simp at this; omega
  rw [← EB.out] at SE
  generalize ofBs (sepBy 10 (linesN m)) = jn at *
  generalize ofBs (packT m) = pk at *
  have q1 : ¬ 9223372036854775807 < jn.size + 1 := by omega
  clear hg EB hT h hm hgn hr
  go_enter Tryz.func18, Tryz.ntmps18
  go_wp2_with (first
    | (go_at_call 36; refine HS.out.mono ?_; rintro e w ⟨rfl, rfl⟩)
    | (go_at_call 39; refine LO.out.mono ?_; rintro e w1 ⟨v, rfl, ho1, hb1⟩; have O1 := hide ho1; have H1 := hide hb1; clear ho1 hb1)
    | (go_at_call 38; refine (JN.out _ _ O1.out).mono ?_; rintro e w2 ⟨rfl, hb2⟩; have H2 := hide (H1.out.trans (hb2.mono H1.out.size)); clear hb2)
    | (go_at_call 37; refine (SE.out _ H2.out).mono ?_; rintro e w3 ⟨rfl, hb3⟩; have H3 := hide (H2.out.trans (hb3.mono H2.out.size)); clear hb3))
  go_ret
  exact ⟨rfl, H3.out⟩

/-- what Unpack answers -/
def UAns (A : Option (List DR)) (lo : Nat) (w' : World) (e : Ending) : Prop := match A with
  | none => e = .returned (.tuple #[.pointer none, .int .i64 7])
  | some m => ∃ nb pb rbs mbs, e = .returned (.tuple #[.pointer (some ⟨nb, 0, none⟩), .int .i64 0]) ∧ UNet w' nb pb rbs mbs m ∧ lo ≤ pb
theorem Unpack_any (t : ByteArray) (ht : t.size ≤ 10000000) (w : World) (hg : Glob w) :
    Calls Tryz.prog 21 #[.string t] w fun e w' => UAns (netR t) w.heap.size w' e ∧ Below w.heap.size w w' := by
  have NE := hide (netOf_any t ht w hg)
  clear hg
  cases hn : netR t with
  | none =>
    rw [hn] at NE
    go_enter Tryz.func21, Tryz.ntmps21
    go_wp2_with (go_at_call 43; refine NE.out.mono ?_; rintro e w1 ⟨⟨v, rfl⟩, hb1⟩)
    go_ret2
    exact ⟨rfl, hb1⟩
  | some m =>
    rw [hn] at NE
    go_enter Tryz.func21, Tryz.ntmps21
    go_wp2_with (go_at_call 43; refine NE.out.mono ?_; rintro e w1 ⟨⟨nb, pb, rbs, mbs, rfl, hU, hlo⟩, hb1⟩; have U1 := hide hU; have UL := hide hlo; clear hU hlo)
    go_ret2
    exact ⟨⟨nb, pb, rbs, mbs, rfl, U1.out, UL.out⟩, hb1⟩

end Go.Proofs.YtaelaldmibgibaaGreatDoor

namespace Go.Proofs.YtaelaldmibgibaaGreatDoor
open Go.RowKit

/-- the account of a net that New has made -/
theorem U0.start {w wr w' : World} {s : ByteArray} {x : Nat × Bool} {n : Nat} {ρ : Nat → Nat × Nat} {S : RS} (h : Hd w wr s x) (hR : RefRep w' wr.heap.size ρ S) (hn : S.n = n) (hlo : ∀ k, (ρ k).1 ≠ 0 → wr.heap.size ≤ k) (hb : Below wr.heap.size wr w') :
    U0 w w' s x wr.heap.size n ρ (fun _ => (0, 0)) S [] (.slice none 0 0) (.slice none 0 0) [] [] :=
  ⟨h.rd.keep (hb.block _ h.rd.lt), hR, hn, Rdb.start _ _ _, fun _ _ => rfl, fun k hk => by have := hlo k hk; have := h.rd.lt; omega, rfl, below_step h.bel hb⟩

theorem U0.drew {w wr : World} {s : ByteArray} {x : Nat × Bool} {tb n : Nat} {ρ σ : Nat → Nat × Nat} {S : RS} {R : List RR} {nv xv : Value} {ns xs : List Value} (h : U0 w wr s x tb n ρ σ S R nv xv ns xs) : U0 w wr.drew s x tb n ρ σ S R nv xv ns xs :=
  h.onRd (h.rd.keep rfl) ((Fr.refl _ _).drew)
theorem U0.comForm {w wr : World} {s : ByteArray} {x : Nat × Bool} {tb n : Nat} {ρ σ : Nat → Nat × Nat} {S : RS} {R : List RR} {nv xv : Value} {ns xs : List Value} (h : U0 w wr s x tb n ρ σ S R nv xv ns xs) : ∃ cg cc, S.cv = .slice (some ⟨cg, 0, none⟩) S.n cc := by
  obtain ⟨cg, cc, e, _⟩ := World.ownsRow.form h.net.c (by have := h.net.n1; omega)
  exact ⟨cg, cc, e⟩
theorem U0.comCell {w wr : World} {s : ByteArray} {x : Nat × Bool} {tb n : Nat} {ρ σ : Nat → Nat × Nat} {S : RS} {R : List RR} {nv xv : Value} {ns xs : List Value} (h : U0 w wr s x tb n ρ σ S R nv xv ns xs) {cg cc : Nat} (es : S.cv = .slice (some ⟨cg, 0, none⟩) S.n cc) {i : Nat} (hi : i < n) :
    wr.cell? ⟨tb, 2, none⟩ = some (.slice (some ⟨cg, 0, none⟩) n cc) ∧ (∃ u, wr.cell? ⟨cg, i, none⟩ = some u) ∧ wr.frozen? ⟨cg, i, none⟩ = false := by
  have q1 := h.net.c2
  rw [es, h.sn] at q1
  have hc := h.net.c
  rw [es] at hc
  refine ⟨q1, ⟨((S.coms.map (·.1))[i]?).getD (.bool false), ?_⟩, World.ownsRow.frozenAt hc i⟩
  rw [World.ownsRow.cellAt hc i (by rw [h.sn]; omega)]
  have : i < (S.coms.map (·.1)).length := by rw [List.length_map, h.net.coml, h.sn]; exact hi
  rw [List.getElem?_eq_getElem this]
  rfl

theorem map_lv (R : List RR) (lv ov : Value) (ps : List ByteArray) (cs : List SP) (rs : List SpR) : (R ++ [(⟨lv, ov, ps, cs, rs⟩ : RR)]).map (·.lv) = R.map (·.lv) ++ [lv] := by simp
theorem map_ov (R : List RR) (lv ov : Value) (ps : List ByteArray) (cs : List SP) (rs : List SpR) : (R ++ [(⟨lv, ov, ps, cs, rs⟩ : RR)]).map (·.ov) = R.map (·.ov) ++ [ov] := by simp
/-- one more replica -/
theorem Ub.next {w wr w' : World} {s : ByteArray} {x0 : Nat × Bool} {tb n i : Nat} {ρ σ ρ' σ' : Nat → Nat × Nat} {S : RS} {R : List RR} {nv xv nv' xv' : Value} {ns xs ns' xs' : List Value} (h : Ub w wr s x0 tb n i ρ σ S R nv xv ns xs) (hi : i < n) {v lv ov : Value} {cs : List SP}
    (hu : U0 w w' s (repsS s n (i + 1) x0).1 tb n ρ' σ' { S with coms := S.coms.set i (v, (repS s n (repsS s n i x0).1).2.1) } (R ++ [⟨lv, ov, (repS s n (repsS s n i x0).1).2.2.map (·.1), cs, (repS s n (repsS s n i x0).1).2.2.map (·.2)⟩]) nv' xv' ns' xs') :
    Ub w w' s x0 tb n (i + 1) ρ' σ' { S with coms := S.coms.set i (v, (repS s n (repsS s n i x0).1).2.1) } (R ++ [⟨lv, ov, (repS s n (repsS s n i x0).1).2.2.map (·.1), cs, (repS s n (repsS s n i x0).1).2.2.map (·.2)⟩]) nv' xv' ns' xs' := by
  have hcl : i < S.coms.length := by rw [h.u.net.coml, h.u.sn]; exact hi
  have hml : (repsS s n i x0).2.length = i := by
    clear h hu hcl
    induction i with
    | zero => rfl
    | succ i ih => simp only [repsS, List.length_append, List.length_singleton]; rw [ih (by omega)]
  refine ⟨hu, by simp [h.len], fun j a ha => ?_, h.paths, h.rows⟩
  have e : (repsS s n (i + 1) x0).2 = (repsS s n i x0).2 ++ [(repS s n (repsS s n i x0).1).2] := rfl
  rw [e] at ha
  rcases Nat.lt_or_ge j i with hj | hj
  · rw [List.getElem?_append_left (by rw [hml]; exact hj)] at ha
    obtain ⟨r, cw, h1, h2, h3, h4⟩ := h.rd j a ha
    refine ⟨r, cw, ?_, h2, h3, ?_⟩
    · rw [List.getElem?_append_left (by rw [h.len]; exact hj)]; exact h1
    · rw [List.getElem?_set_ne (by omega)]; exact h4
  · rw [List.getElem?_append_right (by rw [hml]; exact hj), hml] at ha
    have : j = i := by
      rcases Nat.eq_or_lt_of_le hj with e | e
      · exact e.symm
      · rw [List.getElem?_eq_none (by simp; omega)] at ha; cases ha
    subst this
    simp at ha
    subst ha
    refine ⟨⟨lv, ov, (repS s n (repsS s n j x0).1).2.2.map (·.1), cs, (repS s n (repsS s n j x0).1).2.2.map (·.2)⟩, v, ?_, rfl, rfl, ?_⟩
    · rw [List.getElem?_append_right (by rw [h.len]; omega), h.len]; simp
    · rw [List.getElem?_set_self hcl]

end Go.Proofs.YtaelaldmibgibaaGreatDoor

namespace Go.Proofs.YtaelaldmibgibaaGreatDoor
open Go.RowKit

theorem list_set_self {α : Type} (l : List α) (i : Nat) (a b : α) : (l.set i a).set i b = l.set i b := by simp
/-- one cell of a spot is written, and what the spot is said to be -/
theorem RefRep.cellSpot {w : World} {b : Nat} {ρ : Nat → Nat × Nat} {S : RS} {r g cap : Nat} {l : List SP} (hr : r < S.rows.length) (i : Nat) (hi : i < l.length) (s s' : SP) (j : Nat) (u : Value) (hj : j < 6) (hc : s'.cells = s.cells.set j u)
    (h : RefRep w b ρ { S with rows := S.rows.set r (.slice (some ⟨g, 0, none⟩) l.length cap, l.set i s) }) (hok : SpOk w ρ S.n r s') :
    RefRep (w.setCell ⟨g, i * 6 + j, none⟩ u) b ρ { S with rows := S.rows.set r (.slice (some ⟨g, 0, none⟩) l.length cap, l.set i s') } := by
  have e : (l.set i s).length = l.length := by simp
  have q := h.setSpot r g cap (l.set i s) (by simp [hr]) i s s' (by simp [hi]) j u hj hc hok
  simpa using q
theorem SpOk.cell {w : World} {ρ : Nat → Nat × Nat} {n r : Nat} {s : SP} {g o : Nat} {u : Value} (h : SpOk w ρ n r s) (hg : ρ g = (5, r)) : SpOk (w.setCell ⟨g, o, none⟩ u) ρ n r s := h.far hg (by simp) (by simp)

/-- a spot is written over, all of it -/
theorem RefRep.putSpot {w : World} {b : Nat} {ρ : Nat → Nat × Nat} {S : RS} (h : RefRep w b ρ S) (r : Nat) (g cap : Nat) (l : List SP) (hx : S.rows[r]? = some (.slice (some ⟨g, 0, none⟩) l.length cap, l)) (i : Nat) (s c : SP) (hs : l[i]? = some s) (hok : SpOk w ρ S.n r c) :
    RefRep (w.setCells g (i * 6) c.cells) b ρ { S with rows := S.rows.set r (.slice (some ⟨g, 0, none⟩) l.length cap, l.set i c) } := by
  have hr : r < S.rows.length := (List.getElem?_eq_some_iff.1 hx).1
  have hi : i < l.length := (List.getElem?_eq_some_iff.1 hs).1
  have hρ : ρ g = (5, r) := (h.row r _ hx).2 g rfl
  have so := h.sp r _ hx s (List.mem_of_getElem? hs)
  have e0 : { S with rows := S.rows.set r (Value.slice (some ⟨g, 0, none⟩) l.length cap, l.set i s) } = S := by
    have a1 : l.set i s = l := by
      obtain ⟨h1, h2⟩ := List.getElem?_eq_some_iff.1 hs
      rw [← h2, List.set_getElem_self]
    have a2 : S.rows.set r (Value.slice (some ⟨g, 0, none⟩) l.length cap, l) = S.rows := by
      obtain ⟨h1, h2⟩ := List.getElem?_eq_some_iff.1 hx
      rw [← h2, List.set_getElem_self]
    rw [a1, a2]
  have h0 : RefRep w b ρ { S with rows := S.rows.set r (.slice (some ⟨g, 0, none⟩) l.length cap, l.set i s) } := by rw [e0]; exact h
  obtain ⟨ct, cx, cb, cn, cchv, cch, ctmv, ctm⟩ := c
  obtain ⟨st, sx, sb, sn, schv, sch, stmv, stm⟩ := s
  have k0 := RefRep.cellSpot hr i hi ⟨st, sx, sb, sn, schv, sch, stmv, stm⟩ ⟨ct, sx, sb, sn, schv, sch, stmv, stm⟩ 0 (.bool ct) (by omega) rfl h0 ⟨so.ch, so.chl, so.chr, so.tm, so.tml, so.tmr⟩
  have o0 : SpOk (w.setCell ⟨g, i * 6 + 0, none⟩ (.bool ct)) ρ S.n r ⟨st, sx, sb, sn, schv, sch, stmv, stm⟩ := so.cell hρ
  have p0 : SpOk (w.setCell ⟨g, i * 6 + 0, none⟩ (.bool ct)) ρ S.n r ⟨ct, cx, cb, cn, cchv, cch, ctmv, ctm⟩ := hok.cell hρ
  have k1 := RefRep.cellSpot hr i hi ⟨ct, sx, sb, sn, schv, sch, stmv, stm⟩ ⟨ct, cx, sb, sn, schv, sch, stmv, stm⟩ 1 (.string cx) (by omega) rfl k0 ⟨o0.ch, o0.chl, o0.chr, o0.tm, o0.tml, o0.tmr⟩
  have o1 := o0.cell (o := i * 6 + 1) (u := .string cx) hρ
  have p1 := p0.cell (o := i * 6 + 1) (u := .string cx) hρ
  have k2 := RefRep.cellSpot hr i hi ⟨ct, cx, sb, sn, schv, sch, stmv, stm⟩ ⟨ct, cx, cb, sn, schv, sch, stmv, stm⟩ 2 (.int .i64 cb) (by omega) rfl k1 ⟨o1.ch, o1.chl, o1.chr, o1.tm, o1.tml, o1.tmr⟩
  have o2 := o1.cell (o := i * 6 + 2) (u := .int .i64 cb) hρ
  have p2 := p1.cell (o := i * 6 + 2) (u := .int .i64 cb) hρ
  have k3 := RefRep.cellSpot hr i hi ⟨ct, cx, cb, sn, schv, sch, stmv, stm⟩ ⟨ct, cx, cb, cn, schv, sch, stmv, stm⟩ 3 (.int .i64 cn) (by omega) rfl k2 ⟨o2.ch, o2.chl, o2.chr, o2.tm, o2.tml, o2.tmr⟩
  have o3 := o2.cell (o := i * 6 + 3) (u := .int .i64 cn) hρ
  have p3 := p2.cell (o := i * 6 + 3) (u := .int .i64 cn) hρ
  have k4 := RefRep.cellSpot hr i hi ⟨ct, cx, cb, cn, schv, sch, stmv, stm⟩ ⟨ct, cx, cb, cn, cchv, cch, stmv, stm⟩ 4 cchv (by omega) rfl k3 ⟨p3.ch, p3.chl, p3.chr, o3.tm, o3.tml, o3.tmr⟩
  have p4 := p3.cell (o := i * 6 + 4) (u := cchv) hρ
  exact RefRep.cellSpot hr i hi ⟨ct, cx, cb, cn, cchv, cch, stmv, stm⟩ ⟨ct, cx, cb, cn, cchv, cch, ctmv, ctm⟩ 5 ctmv (by omega) rfl k4 ⟨p4.ch, p4.chl, p4.chr, p4.tm, p4.tml, p4.tmr⟩

end Go.Proofs.YtaelaldmibgibaaGreatDoor

namespace Go.Proofs.YtaelaldmibgibaaGreatDoor
open Go.RowKit

/-- what was read for a replica, and is still to be put from the t-th record on -/
structure Rep2 (w : World) (σ : Nat → Nat × Nat) (n q : Nat) (r : RR) (t : Nat) : Prop where
  ol : w.ownsRow 0 9 1 r.lv r.ps.length (svs r.ps)
  oo : w.ownsRow 0 117 6 r.ov r.cs.length (spv r.cs)
  len : r.cs.length = r.rs.length
  is : ∀ (i : Nat) c x, r.cs[i]? = some c → r.rs[i]? = some x → SpIs c x
  ok : ∀ (i : Nat) c, t ≤ i → r.cs[i]? = some c → RdSp w σ n q i c
  rl : role σ r.lv (20, q)
  ro : role σ r.ov (21, q)
theorem Rep2.keep {w w' : World} {σ : Nat → Nat × Nat} {n q : Nat} {r : RR} {t : Nat} (h : Rep2 w σ n q r t) (hk : ∀ k, (σ k).1 ≠ 0 → w'.heap[k]? = w.heap[k]?) : Rep2 w' σ n q r t :=
  ⟨ownsRow_keep h.ol (fun k e => hk k (by rw [h.rl k e]; simp)), ownsRow_keep h.oo (fun k e => hk k (by rw [h.ro k e]; simp)), h.len, h.is, fun i c ht hc => (h.ok i c ht hc).keep hk, h.rl, h.ro⟩

/-- the net, and what was read; of replica q the first τ q records are put -/
structure U2 (w wr : World) (tb n : Nat) (ρ σ : Nat → Nat × Nat) (S : RS) (R : List RR) (nv xv : Value) (τ : Nat → Nat) : Prop where
  net : RefRep wr tb ρ S
  sn : S.n = n
  rl : R.length = n
  on : wr.ownsRow w.heap.size 25 1 nv n (R.map (·.lv))
  ox : wr.ownsRow w.heap.size 112 1 xv n (R.map (·.ov))
  rn : role σ nv (22, 0)
  rx : role σ xv (23, 0)
  rep : ∀ (q : Nat) r, R[q]? = some r → Rep2 wr σ n q r (τ q)
  lo : ∀ k, (σ k).1 ≠ 0 → w.heap.size ≤ k ∧ k < wr.heap.size
  ap : ∀ k, (ρ k).1 ≠ 0 → (σ k).1 = 0
  rlo : ∀ k, (ρ k).1 ≠ 0 → w.heap.size ≤ k
  bel : Below w.heap.size w wr

theorem U2.of {w wr : World} {s : ByteArray} {x : Nat × Bool} {tb n : Nat} {ρ σ : Nat → Nat × Nat} {S : RS} {R : List RR} {nv xv : Value} (h : U0 w wr s x tb n ρ σ S R nv xv (R.map (·.lv)) (R.map (·.ov))) (hl : R.length = n) : U2 w wr tb n ρ σ S R nv xv (fun _ => 0) :=
  ⟨h.net, h.sn, hl, by have := h.db.on; rwa [List.length_map, hl] at this, by have := h.db.ox; rwa [List.length_map, hl] at this, h.db.rn, h.db.rx, fun q r hr => by
    have p := h.db.rep q r hr
    exact ⟨p.ol, p.oo, p.len, p.is, fun i c _ hc => p.ok i c hc, p.rl, p.ro⟩, h.db.lo, h.ap, fun k hk => Nat.le_of_lt (h.rlo k hk), h.bel⟩

section
variable {w wr w' : World} {tb n : Nat} {ρ ρ' σ : Nat → Nat × Nat} {S S' : RS} {R : List RR} {nv xv : Value} {τ : Nat → Nat}

/-- the net has turned -/
theorem U2.onNet (h : U2 w wr tb n ρ σ S R nv xv τ) (hR : RefRep w' tb ρ' S') (hn : S'.n = n) (hG : Grow wr ρ ρ') (hf : Fr (fun k => (ρ k).1 ≠ 0) wr w') : U2 w w' tb n ρ' σ S' R nv xv τ := by
  have kb : ∀ k, (σ k).1 ≠ 0 → w'.heap[k]? = wr.heap[k]? := fun k hk => hf.block k (h.lo k hk).2 (fun e => hk (h.ap k e))
  refine ⟨hR, hn, h.rl, ownsRow_keep h.on (fun k e => kb k (by rw [h.rn k e]; simp)), ownsRow_keep h.ox (fun k e => kb k (by rw [h.rx k e]; simp)), h.rn, h.rx, fun q r hr => (h.rep q r hr).keep kb, fun k hk => ⟨(h.lo k hk).1, Nat.lt_of_lt_of_le (h.lo k hk).2 hf.size⟩, fun k hk => ?_, fun k hk => ?_, ?_⟩
  · rcases hG k hk with q | q
    · exact h.ap k q
    · rcases Nat.decEq (σ k).1 0 with e | e
      · have := (h.lo k e).2; omega
      · exact e
  · rcases hG k hk with q | q
    · exact h.rlo k q
    · have := h.bel.size
      omega
  · exact ⟨hf.os.trans h.bel.os, hf.tape.trans h.bel.tape, hf.output.trans h.bel.output, Nat.le_trans h.bel.size hf.size, fun k hk => (hf.block k (Nat.lt_of_lt_of_le hk h.bel.size) (fun e => by have := h.rlo k e; omega)).trans (h.bel.block k hk)⟩
theorem U2.below (h : U2 w wr tb n ρ σ S R nv xv τ) (hb : Below wr.heap.size wr w') : U2 w w' tb n ρ σ S R nv xv τ :=
  h.onNet (h.net.below hb) h.sn (Grow.refl _ _) (Fr.of_below hb)
theorem U2.drewN (h : U2 w wr tb n ρ σ S R nv xv τ) (m : Nat) : U2 w (wr.drewN m) tb n ρ σ S R nv xv τ :=
  h.onNet (h.net.keep (Nat.le_refl _) (fun _ _ => rfl)) h.sn (Grow.refl _ _) ((Fr.refl _ _).drewN m)

theorem U2.drew (h : U2 w wr tb n ρ σ S R nv xv τ) : U2 w wr.drew tb n ρ σ S R nv xv τ :=
  h.onNet (h.net.keep (Nat.le_refl _) (fun _ _ => rfl)) h.sn (Grow.refl _ _) ((Fr.refl _ _).drew)

/-- the next record of replica q is put at place p of its row -/
theorem U2.put (h : U2 w wr tb n ρ σ S R nv xv τ) {q : Nat} {r : RR} (hr : R[q]? = some r) {c : SP} (hc : r.cs[τ q]? = some c) (hq : q < n) {g cap : Nat} {l : List SP} (hx : S.rows[q]? = some (.slice (some ⟨g, 0, none⟩) l.length cap, l)) {p : Nat} {o : SP} (hp : l[p]? = some o) :
    ∃ ρ' σ', U2 w (wr.setCells g (p * 6) c.cells) tb n ρ' σ' { S with rows := S.rows.set q (.slice (some ⟨g, 0, none⟩) l.length cap, l.set p c) } R nv xv (fun k => if k = q then τ q + 1 else τ k) := by
  have hn1 := h.net.n1
  have rc := (h.rep q r hr).ok _ c (Nat.le_refl _) hc
  have hsn := h.sn
  obtain ⟨gc, cc, ec, _, hgcl⟩ := World.ownsRow.form rc.ch (by rw [rc.chl]; omega)
  obtain ⟨gt, ct, et, _, hgtl⟩ := World.ownsRow.form rc.tm (by rw [rc.tml]; omega)
  have sc : σ gc = (40 + q, 2 * τ q) := rc.chr gc (by rw [ec]; rfl)
  have st : σ gt = (40 + q, 2 * τ q + 1) := rc.tmr gt (by rw [et]; rfl)
  have hne : gt ≠ gc := fun e => by rw [e, sc] at st; simp at st
  have f1 : (ρ gc).1 = 0 := by
    rcases Nat.decEq (ρ gc).1 0 with e | e
    · have := h.ap gc e; rw [sc] at this; simp at this
    · exact e
  have f2' : (ρ gt).1 = 0 := by
    rcases Nat.decEq (ρ gt).1 0 with e | e
    · have := h.ap gt e; rw [st] at this; simp at this
    · exact e
  have f2 : (upd ρ gc (6, 0) gt).1 = 0 := by unfold upd; rw [if_neg hne]; exact f2'
  have N := (h.net.upd (6, 0) f1 hgcl).upd (7, q) f2 hgtl
  have ok : SpOk wr (upd (upd ρ gc (6, 0)) gt (7, q)) S.n q c := by
    refine ⟨rc.ch, by rw [rc.chl, hsn], fun k hk => ?_, rc.tm, by rw [rc.tml, hsn], fun k hk => ?_⟩
    · have : k = gc := by rw [ec] at hk; simpa [Value.ownBlock] using hk.symm
      subst this
      unfold upd
      rw [if_neg (fun e => hne e.symm), if_pos rfl]
    · have : k = gt := by rw [et] at hk; simpa [Value.ownBlock] using hk.symm
      subst this
      unfold upd
      rw [if_pos rfl]
  have N2 := N.putSpot q g cap l hx p o c hp ok
  have hg5 : ρ g = (5, q) := (h.net.row q _ hx).2 g rfl
  have sg : (σ g).1 = 0 := h.ap g (by rw [hg5]; simp)
  have oth : ∀ k, k ≠ g → (wr.setCells g (p * 6) c.cells).heap[k]? = wr.heap[k]? := fun k hk => heap_setCells_other _ _ _ _ _ hk
  have kb : ∀ k, (σ k).1 ≠ 0 → (wr.setCells g (p * 6) c.cells).heap[k]? = wr.heap[k]? := fun k hk => oth k (fun e => by subst e; exact hk sg)
  have hz : (wr.setCells g (p * 6) c.cells).heap.size = wr.heap.size := size_setCells _ _ _ _
  have keepσ : ∀ k z, σ k = z → (z ≠ (40 + q, 2 * τ q)) → (z ≠ (40 + q, 2 * τ q + 1)) → upd (upd σ gc (0, 0)) gt (0, 0) k = z := fun k z hk h1 h2 => by
    unfold upd
    rw [if_neg (fun e => by subst e; exact h2 (hk.symm.trans st)), if_neg (fun e => by subst e; exact h1 (hk.symm.trans sc)), hk]
  refine ⟨upd (upd ρ gc (6, 0)) gt (7, q), upd (upd σ gc (0, 0)) gt (0, 0), N2, hsn, h.rl, ownsRow_keep h.on (fun k e => kb k (by rw [h.rn k e]; simp)), ownsRow_keep h.ox (fun k e => kb k (by rw [h.rx k e]; simp)), fun k e => keepσ k _ (h.rn k e) (by simp <;> omega) (by simp <;> omega), fun k e => keepσ k _ (h.rx k e) (by simp <;> omega) (by simp <;> omega), ?_, ?_, ?_, ?_, ?_⟩
  · intro q' r' hr'
    have p' := (h.rep q' r' hr').keep kb
    have hq' : q' < n := by have := (List.getElem?_eq_some_iff.1 hr').1; have := h.rl; omega
    refine ⟨p'.ol, p'.oo, p'.len, p'.is, fun i c' hi hc' => ?_, fun k e => keepσ k _ (p'.rl k e) (by simp <;> omega) (by simp <;> omega), fun k e => keepσ k _ (p'.ro k e) (by simp <;> omega) (by simp <;> omega)⟩
    have hi' : τ q' ≤ i := by
      by_cases e : q' = q
      · subst e; rw [if_pos rfl] at hi; omega
      · rw [if_neg e] at hi; exact hi
    have o' := p'.ok i c' hi' hc'
    have hdiff : q' ≠ q ∨ i ≠ τ q := by
      by_cases e : q' = q
      · subst e; rw [if_pos rfl] at hi; right; omega
      · exact .inl e
    refine ⟨o'.ch, o'.chl, fun k e => keepσ k _ (o'.chr k e) ?_ ?_, o'.tm, o'.tml, fun k e => keepσ k _ (o'.tmr k e) ?_ ?_⟩
    · simp <;> omega
    · simp <;> omega
    · simp <;> omega
    · simp <;> omega
  · intro k hk
    rw [hz]
    unfold upd at hk
    by_cases e2 : k = gt
    · subst e2; simp at hk
    · rw [if_neg e2] at hk
      by_cases e1 : k = gc
      · subst e1; simp at hk
      · rw [if_neg e1] at hk; exact h.lo k hk
  · intro k hk
    unfold upd at hk ⊢
    by_cases e2 : k = gt
    · subst e2; simp
    · rw [if_neg e2] at hk ⊢
      by_cases e1 : k = gc
      · subst e1; simp
      · rw [if_neg e1] at hk ⊢; exact h.ap k hk
  · intro k hk
    unfold upd at hk
    by_cases e2 : k = gt
    · subst e2; exact (h.lo _ (by rw [st]; simp)).1
    · rw [if_neg e2] at hk
      by_cases e1 : k = gc
      · subst e1; exact (h.lo _ (by rw [sc]; simp)).1
      · rw [if_neg e1] at hk; exact h.rlo k hk
  · have hgl := h.rlo g (by rw [hg5]; simp)
    exact Below.setCells h.bel (by omega) _ _
end

end Go.Proofs.YtaelaldmibgibaaGreatDoor

namespace Go.Proofs.YtaelaldmibgibaaGreatDoor
open Go.RowKit

theorem atOf_mem (ps : List ByteArray) (p : ByteArray) (hs : Sorted ps) (hp : p ∈ ps) : ps[atOf ps p]? = some p := by
  obtain ⟨i, hi⟩ := List.getElem?_of_mem hp
  have hil := (List.getElem?_eq_some_iff.1 hi).1
  have : atOf ps p = i := by
    refine atOf_eq ps p i (by omega) (fun q hq => ?_) (fun q hq => by rw [hi] at hq; cases hq; exact slt_irrefl p)
    obtain ⟨j, hj⟩ := List.getElem?_of_mem hq
    have hji : j < i := by
      have := (List.getElem?_eq_some_iff.1 hj).1
      simp at this
      omega
    rw [List.getElem?_take_of_lt hji] at hj
    have hjl := (List.getElem?_eq_some_iff.1 hj).1
    have hp2 := List.pairwise_iff_getElem.1 hs j i hjl hil hji
    rw [(List.getElem?_eq_some_iff.1 hj).2, (List.getElem?_eq_some_iff.1 hi).2] at hp2
    exact hp2
  rw [this]
  exact hi
theorem sorted_inj {ps : List ByteArray} (hs : Sorted ps) {i j : Nat} {p : ByteArray} (hi : ps[i]? = some p) (hj : ps[j]? = some p) : i = j := by
  obtain ⟨h1, e1⟩ := List.getElem?_eq_some_iff.1 hi
  obtain ⟨h2, e2⟩ := List.getElem?_eq_some_iff.1 hj
  rcases Nat.lt_trichotomy i j with h | h | h
  · have := List.pairwise_iff_getElem.1 hs i j h1 h2 h
    rw [e1, e2, slt_irrefl] at this
    cases this
  · exact h
  · have := List.pairwise_iff_getElem.1 hs j i h2 h1 h
    rw [e1, e2, slt_irrefl] at this
    cases this

/-- of replica q the first τ q records stand in their places, all else is no file -/
structure DI (S : RS) (R : List RR) (cl : List (Value × List Int)) (τ : Nat → Nat) : Prop where
  sorted : Sorted S.paths
  len : ∀ (r : Nat) y, S.rows[r]? = some y → y.2.length = S.paths.length
  coms : S.coms = cl
  has : ∀ (q : Nat) r (j : Nat) nm, R[q]? = some r → j < τ q → r.ps[j]? = some nm → nm ∈ S.paths
  at_ : ∀ (q : Nat) v l (p : Nat) nm c, S.rows[q]? = some (v, l) → S.paths[p]? = some nm → l[p]? = some c →
    (∃ r j x, R[q]? = some r ∧ j < τ q ∧ r.ps[j]? = some nm ∧ r.rs[j]? = some x ∧ SpIs c x) ∨ ((∀ r j, R[q]? = some r → j < τ q → r.ps[j]? ≠ some nm) ∧ c.there = false)

theorem DI.start {S : RS} (R : List RR) (hp : S.paths = []) (hr : ∀ (r : Nat) y, S.rows[r]? = some y → y.2 = []) : DI S R S.coms (fun _ => 0) :=
  ⟨by rw [hp]; exact List.Pairwise.nil, fun r y hy => by rw [hr r y hy, hp]; rfl, rfl, fun q r j nm _ hj => by omega, fun q v l p nm c _ hn => by rw [hp] at hn; simp at hn⟩

theorem DI.rowed {S S' : RS} {R : List RR} {cl : List (Value × List Int)} {τ : Nat → Nat} {n : Nat} (h : DI S R cl τ) (hsn : S.rows.length = n) (hs'n : S'.rows.length = n) (nm : ByteArray) (hnew : S.paths[atOf S.paths nm]? ≠ some nm)
    (hR : Rowed S S' (atOf S.paths nm) (S.paths.take (atOf S.paths nm) ++ nm :: S.paths.drop (atOf S.paths nm)) n) : DI S' R cl τ := by
  have hle := atOf_le S.paths nm
  have hnm : nm ∉ S.paths := fun q => hnew (atOf_mem _ _ h.sorted q)
  generalize hat : atOf S.paths nm = a at *
  have rowOf : ∀ (q : Nat) v' l', S'.rows[q]? = some (v', l') → ∃ v l fr, S.rows[q]? = some (v, l) ∧ l' = l.take a ++ fr :: l.drop a ∧ fr.there = false ∧ l.length = S.paths.length := fun q v' l' hq => by
    have hql := (List.getElem?_eq_some_iff.1 hq).1
    have : q < S.rows.length := by omega
    generalize hy : S.rows[q] = y
    have hy' : S.rows[q]? = some y := by rw [List.getElem?_eq_getElem this, hy]
    obtain ⟨v, l⟩ := y
    obtain ⟨v2, fr, cw, c, h1, _, h3⟩ := hR.lo q v l hy' (by omega)
    rw [hq] at h1
    cases h1
    exact ⟨v, l, fr, hy', rfl, h3.there, h.len q _ hy'⟩
  refine ⟨?_, ?_, by rw [hR.coms]; exact h.coms, ?_, ?_⟩
  · rw [hR.paths, ← hat]
    exact sorted_ins _ _ h.sorted (by rw [hat]; exact hnew)
  · intro q y hy
    obtain ⟨v, l, fr, _, e, _, hl⟩ := rowOf q y.1 y.2 hy
    rw [e, hR.paths]
    simp only [List.length_append, List.length_take, List.length_cons, List.length_drop]
    omega
  · intro q r j nm' hr hj hn
    rw [hR.paths]
    have := h.has q r j nm' hr hj hn
    rw [← List.take_append_drop a S.paths] at this
    rcases List.mem_append.1 this with m | m
    · exact List.mem_append.2 (.inl m)
    · exact List.mem_append.2 (.inr (List.mem_cons_of_mem _ m))
  · intro q v' l' p nm' c hq hp hc
    obtain ⟨v, l, fr, hy, rfl, hfr, hl⟩ := rowOf q v' l' hq
    rw [hR.paths] at hp
    rcases Nat.lt_trichotomy p a with hlt | he | hgt
    · rw [List.getElem?_append_left (by simp; omega), List.getElem?_take_of_lt hlt] at hp
      rw [List.getElem?_append_left (by simp; omega), List.getElem?_take_of_lt hlt] at hc
      exact h.at_ q v l p nm' c hy hp hc
    · subst he
      rw [List.getElem?_append_right (by simp; omega)] at hp hc
      rw [show p - (S.paths.take p).length = 0 by simp; omega] at hp
      rw [show p - (l.take p).length = 0 by simp; omega] at hc
      simp at hp hc
      subst hp hc
      exact .inr ⟨fun r j hr hj e => hnm (h.has q r j _ hr hj e), hfr⟩
    · rw [List.getElem?_append_right (by simp; omega)] at hp hc
      rw [show p - (S.paths.take a).length = (p - a - 1) + 1 by simp; omega] at hp
      rw [show p - (l.take a).length = (p - a - 1) + 1 by simp; omega] at hc
      simp only [List.getElem?_cons_succ, List.getElem?_drop] at hp hc
      exact h.at_ q v l _ nm' c hy hp hc

theorem DI.put {S : RS} {R : List RR} {cl : List (Value × List Int)} {τ : Nat → Nat} (h : DI S R cl τ) {q : Nat} {r : RR} (hr : R[q]? = some r) {nm : ByteArray} (hn : r.ps[τ q]? = some nm) {x : SpR} (hx : r.rs[τ q]? = some x) {c : SP} (hi : SpIs c x) {v v2 : Value} {l : List SP} (hy : S.rows[q]? = some (v, l)) {p : Nat} (hp : S.paths[p]? = some nm) :
    DI { S with rows := S.rows.set q (v2, l.set p c) } R cl (fun k => if k = q then τ q + 1 else τ k) := by
  have hql := (List.getElem?_eq_some_iff.1 hy).1
  refine ⟨h.sorted, ?_, h.coms, ?_, ?_⟩
  · intro q' y hy'
    by_cases e : q' = q
    · subst e
      simp [hql] at hy'
      subst hy'
      simpa using h.len q' _ hy
    · rw [List.getElem?_set_ne (Ne.symm e)] at hy'
      exact h.len q' y hy'
  · intro q' r' j nm' hr' hj hn'
    by_cases e : q' = q
    · subst e
      rw [if_pos rfl] at hj
      rcases Nat.lt_or_ge j (τ q') with hlt | hge
      · exact h.has q' r' j nm' hr' hlt hn'
      · have : j = τ q' := by omega
        subst this
        rw [hr] at hr'
        cases hr'
        rw [hn] at hn'
        cases hn'
        exact List.mem_of_getElem? hp
    · rw [if_neg e] at hj
      exact h.has q' r' j nm' hr' hj hn'
  · intro q' v' l' p' nm' c' hq' hp' hc'
    by_cases e : q' = q
    · subst e
      simp [hql] at hq'
      obtain ⟨_, rfl⟩ := hq'
      simp only [if_true]
      by_cases ep : p' = p
      · subst ep
        have hpl : p' < l.length := by have := (List.getElem?_eq_some_iff.1 hc').1; simpa using this
        rw [List.getElem?_set_self hpl] at hc'
        cases hc'
        rw [hp] at hp'
        cases hp'
        exact .inl ⟨r, τ q', x, hr, by omega, hn, hx, hi⟩
      · rw [List.getElem?_set_ne (Ne.symm ep)] at hc'
        rcases h.at_ q' v l p' nm' c' hy hp' hc' with ⟨r', j, x', h1, h2, h3, h4, h5⟩ | ⟨h1, h2⟩
        · exact .inl ⟨r', j, x', h1, by omega, h3, h4, h5⟩
        · refine .inr ⟨fun r' j hr' hj hn' => ?_, h2⟩
          rcases Nat.lt_or_ge j (τ q') with hlt | hge
          · exact h1 r' j hr' hlt hn'
          · have : j = τ q' := by omega
            subst this
            rw [hr] at hr'
            cases hr'
            rw [hn] at hn'
            cases hn'
            exact ep (sorted_inj h.sorted hp' hp)
    · rw [List.getElem?_set_ne (Ne.symm e)] at hq'
      rw [if_neg e]
      exact h.at_ q' v' l' p' nm' c' hq' hp' hc'

end Go.Proofs.YtaelaldmibgibaaGreatDoor
