/- The document's text: what stands behind a path (spot): a file whose birth is in no replica of the net; and all of it. The document's text: reading records: the reader, the paths, the spots. The document's text: all lines of records that follow. The document's text: all that was read: for each replica its paths and spots. The document's answer: place, the new spot in a row. -/
import Derived.Test.YtaelaldmibgibaaGreatDoorU14
import Derived.Test.YtaelaldmibgibaaGreatDoorU05
import Derived.Test.YtaelaldmibgibaaGreatDoorU06
import Derived.Test.YtaelaldmibgibaaGreatDoorU07

set_option linter.unusedVariables false
set_option linter.unusedSimpArgs false

namespace Go.Proofs.YtaelaldmibgibaaGreatDoor
open Go.RowKit
attribute [local go_sem ↓] stSpot
attribute [local go_sem] run_stSpot

theorem num_true (s : ByteArray) (a : Nat) : (numS s (a, true)).2 = true := by simp [numS]
theorem want_true2 (s p : ByteArray) (x : Nat × Bool) (h : x.2 = true) : (wantS s p x).2 = true := by
  obtain ⟨a, no⟩ := x
  simp only at h
  subst h
  rw [want_true]
theorem timeStep_true (s : ByteArray) (i : Nat) (x : Nat × Bool) (h : x.2 = true) : (timeStep s i x).2 = true := by
  unfold timeStep
  split
  · exact h
  · exact want_true2 s comma x h
theorem time_true (s : ByteArray) (n : Nat) (x : Nat × Bool) (h : x.2 = true) : (timeS s n x).1.2 = true := by
  induction n with
  | zero => exact h
  | succ n ih =>
    have := timeStep_true s n _ ih
    simp only [timeS, numS, this, Bool.true_or]
theorem num_true2 (s : ByteArray) (x : Nat × Bool) (h : x.2 = true) : (numS s x).2 = true := by simp [numS, h]
theorem t_true {s : ByteArray} {n : Nat} {z1 z2 z3 z4 z5 t : Nat × Bool} {T2 : (Nat × Bool) × List Int} (hz2 : (z1.1, true) = z2) (hz3 : wantS s colon z2 = z3) (hz4 : numS s z3 = z4) (hz5 : wantS s blank z4 = z5) (hT2 : timeS s n z5 = T2) (ht : wantS s blankEq T2.1 = t) : t.2 = true := by
  rw [← ht]
  refine want_true2 _ _ _ ?_
  rw [← hT2]
  refine time_true _ _ _ ?_
  rw [← hz5]
  refine want_true2 _ _ _ ?_
  rw [← hz4]
  refine num_true2 _ _ ?_
  rw [← hz3]
  refine want_true2 _ _ _ ?_
  rw [← hz2]

set_option maxRecDepth 100000 in
set_option maxHeartbeats 4000000 in
theorem spot_out (b : Nat) (s : ByteArray) (x : Nat × Bool) (n : Nat) (h1 : 1 ≤ n) (h6 : n ≤ 6) (w : World) (h : Rd w b s x.1 x.2) (x1 y z1 z2 z3 z4 z5 t : Nat × Bool) (T1 T2 : (Nat × Bool) × List Int) (hx1 : wantS s blank x = x1) (hx2 : timeS s n x1 = T1) (hy : wantS s blank T1.1 = y)
    (hh : hasAt s y.1 y.2 dashNl = false) (hn : y.2 = false) (hz1 : numS s y = z1) (hz2 : (z1.1, z1.2 || decide (n ≤ numVal s y.1)) = z2) (hz3 : wantS s colon z2 = z3) (hz4 : numS s z3 = z4) (hz5 : wantS s blank z4 = z5) (hT2 : timeS s n z5 = T2) (ht : wantS s blankEq T2.1 = t) (hin : n ≤ numVal s y.1) :
    Calls Tryz.prog 101 #[.pointer (some ⟨b, 0, none⟩), .int .i64 n] w fun e w' => ∃ c : SP, e = .returned (.agg c.cells.toArray) ∧ Sp w w' b s c ⟨wantS s newl (spotHex s t).1, true, (spotHex s t).2, numVal s y.1, numVal s z3.1, T2.2, T1.2⟩ := by
  have hsz := size_Spot
  have HB : Hid (∀ w1 g cap, _ → _ → Sx _ _ _ _ _ _ _ _) := fun w1 g cap ho hb1 => Sx.begin (n := n) (g := g) (cap := cap) (w1 := w1) h ho hb1
  have HL : Hid (0 < T1.2.length) := by unfold Hid; rw [← hx2, timeS_len]; omega
  have HL2 : Hid (0 < T2.2.length) := by unfold Hid; rw [← hT2, timeS_len]; omega
  have hst : (passed s y.1 y.2 dashNl, y.2) = y := by rw [passed_no hh]
  have hz2' : (z1.1, true) = z2 := by rw [← hz2, decide_eq_true hin, Bool.or_true]
  have dn : decide ((n : Int) ≤ (numVal s y.1 : Int)) = true := by simp; omega
  clear h
  go_enter Tryz.func101, Tryz.ntmps101
  go_wp2_with (first
    | (go_at_call 50; have q := S10r; have S10 := S10r.out.putCh; refine (S10.want blankEq (by decide)).mono ?_; rw [ht]; rintro e w11 ⟨rfl, h11⟩; have S11 := hide h11; clear h11 S10r)
    | (go_at_call 52; have q := S9; refine (S9.out.time n h6).mono ?_; rw [hT2]; rintro e w10 ⟨v, rfl, h10⟩; obtain ⟨g10, c10, rfl, _, _⟩ := World.ownsRow.form h10.own HL2.out; have k4 := h10.sx.cells6.2.2.2.2.1; have f4 := h10.sx.fz 4; have S10r := hide h10; clear h10 S9)
    | (go_at_call 50; have q := S8; refine ((S8.out.putNum _).want blank (by decide)).mono ?_; rw [hz5]; rintro e w9 ⟨rfl, h9⟩; have S9 := hide h9; clear h9 S8)
    | (go_at_call 51; have q := S7; refine (S7.out.num).mono ?_; rw [hz4]; rintro e w8 ⟨rfl, h8⟩; have k3 := h8.cells6.2.2.2.1; have f3 := h8.fz 3; have S8 := hide h8; clear h8 S7)
    | (go_at_call 50; have q := S6; refine (((S6.out.putBy _).setNo true).want colon (by decide)).mono ?_; rw [hz2', hz3]; rintro e w7 ⟨rfl, h7⟩; have S7 := hide h7; clear h7 S6)
    | (go_at_call 51; have q := S5; refine ((S5.out.putThere true).num).mono ?_; rw [hz1]; rintro e w6 ⟨rfl, h6'⟩; have k2 := h6'.cells6.2.2.1; have f2 := h6'.fz 2; have b2 := (h6'.putBy (numVal s y.1)).rd.c2; have b2f := (h6'.putBy (numVal s y.1)).rd.fz 2; have S6 := hide h6'; clear h6' S5)
    | (go_at_call 98; have q := S4; refine (S4.out.is dashNl (by decide)).mono ?_; rw [hh, hst]; rintro e w5 ⟨rfl, h5⟩; have S5 := hide h5; have c2 := h5.rd.c2; rw [hn] at c2; have k0 := h5.cells6.1; have f0 := h5.fz 0; clear h5 S4)
    | (go_at_call 50; have q := S3r; have S3 := S3r.out.putTm; refine (S3.want blank (by decide)).mono ?_; rw [hy]; rintro e w4 ⟨rfl, h4⟩; have S4 := hide h4; clear h4 k5 f5 S3r)
    | (go_at_call 52; have q := S2; refine (S2.out.time n h6).mono ?_; rw [hx2]; rintro e w3 ⟨v, rfl, h3⟩; obtain ⟨g3, c3, rfl, _, _⟩ := World.ownsRow.form h3.own HL.out; have k5 := h3.sx.cells6.2.2.2.2.2; have f5 := h3.sx.fz 5; have S3r := hide h3; clear h3 S2)
    | (go_at_call 50; have q := hb1; have S1 := HB.out _ _ _ ho1 hb1; refine (S1.want blank (by decide)).mono ?_; rw [hx1]; rintro e w2 ⟨rfl, h2⟩; have S2 := hide h2; clear h2 hb1)
    | (go_at_call 49; refine (zeros_form n h1 h6 _).mono ?_; rintro e w1 ⟨g1, c1, rfl, ho1, hg1, hl1, hb1⟩; have ht1 : (w1.alloc (.cells zero6 117)).there w1.heap.size 0 6 := (Mine.made' w1 zero6 117 (n := 6) rfl).there; simp only [zero6] at ht1))
  obtain ⟨ta, no⟩ := t
  cases no with
  | true =>
    have HX : Hid (spotHex s (ta, true) = ((ta, true), [])) := by unfold Hid spotHex; rw [if_pos rfl]
    go_loopw [7] (fun v wr => Hid (Sx w wr b s (ta, true) w.heap.size w1.heap.size ⟨true, ⟨#[]⟩, numVal s y.1, numVal s z3.1, .slice (some ⟨g10, 0, none⟩) T2.2.length c10, T2.2, .slice (some ⟨g3, 0, none⟩) T1.2.length c3, T1.2⟩)) (fun _ _ => 0)
    case atStart => exact S11
    case round =>
      have c2 := hrel.out.rd.c2
      clear S11
      go_wp2_with fail
      go_quiet (fail)
      go_wp2_with (go_at_call 50; refine ((hrel.out.drewN _).want newl (by decide)).mono ?_; rintro e w12 ⟨rfl, h12⟩; have S12 := hide h12; obtain ⟨k0, k1, k2, k3, k4, k5⟩ := h12.cells6; dsimp only at k0 k1 k2 k3 k4 k5; have hth := h12.there; clear h12 hrel)
      refine bodyPost_ret (ret_cell1 Tryz.results101 (a := ⟨w.heap.size, 0, none⟩) rfl (load_stored (cs := [_, _, _, _, _, _]) hth Tryz.underlying117 rfl size_Spot)) rfl ?_
      rw [HX.out]
      exact ⟨_, rfl, S12.out.done (r := ⟨wantS s newl (ta, true), true, [], numVal s y.1, numVal s z3.1, T2.2, T1.2⟩) rfl rfl rfl rfl rfl rfl _⟩
  | false =>
    exact absurd (t_true hz2' hz3 hz4 hz5 hT2 ht) (by simp)

theorem spot_any (b : Nat) (s : ByteArray) (x : Nat × Bool) (n : Nat) (h1 : 1 ≤ n) (h6 : n ≤ 6) (w : World) (h : Rd w b s x.1 x.2) :
    Calls Tryz.prog 101 #[.pointer (some ⟨b, 0, none⟩), .int .i64 n] w fun e w' => ∃ c : SP, e = .returned (.agg c.cells.toArray) ∧ Sp w w' b s c (spotS s n x) := by
  unfold spotS
  split
  · next hh => exact spot_none b s x n h1 h6 w h _ _ _ rfl rfl rfl hh
  · next hh =>
    have hh' := Bool.eq_false_iff.2 hh
    split
    · next hn => exact spot_no b s x n h1 h6 w h _ _ _ rfl rfl rfl hh' hn
    · next hn =>
      have hn' := Bool.eq_false_iff.2 hn
      by_cases hin : numVal s (wantS s blank (timeS s n (wantS s blank x)).1).1 < n
      · exact spot_in b s x n h1 h6 w h _ _ _ _ _ _ _ _ _ _ rfl rfl rfl hh' hn' rfl rfl rfl rfl rfl rfl rfl hin
      · exact spot_out b s x n h1 h6 w h _ _ _ _ _ _ _ _ _ _ rfl rfl rfl hh' hn' rfl rfl rfl rfl rfl rfl rfl (by omega)

end Go.Proofs.YtaelaldmibgibaaGreatDoor

namespace Go.Proofs.YtaelaldmibgibaaGreatDoor
open Go.RowKit

/-- a spot in memory is what was read -/
structure SpIs (c : SP) (r : SpR) : Prop where
  th : c.there = r.there
  tx : c.text = ⟨r.text.toArray⟩
  by_ : c.by_ = r.by_
  num : c.num = r.num
  ch : c.ch = r.ch
  tm : c.tm = r.tm

/-- the lists of the i-th spot that was read for replica q: whose they are -/
structure RdSp (w : World) (ρ : Nat → Nat × Nat) (n q i : Nat) (s : SP) : Prop where
  ch : intRow w s.chv s.ch
  chl : s.ch.length = n
  chr : role ρ s.chv (40 + q, 2 * i)
  tm : intRow w s.tmv s.tm
  tml : s.tm.length = n
  tmr : role ρ s.tmv (40 + q, 2 * i + 1)
theorem RdSp.keep {w w' : World} {ρ : Nat → Nat × Nat} {n q i : Nat} {s : SP} (h : RdSp w ρ n q i s) (hk : ∀ k, (ρ k).1 ≠ 0 → w'.heap[k]? = w.heap[k]?) : RdSp w' ρ n q i s :=
  ⟨ownsRow_keep h.ch (fun k e => hk k (by rw [h.chr k e]; simp)), h.chl, h.chr, ownsRow_keep h.tm (fun k e => hk k (by rw [h.tmr k e]; simp)), h.tml, h.tmr⟩
theorem RdSp.upd {w : World} {ρ : Nat → Nat × Nat} {n q i : Nat} {s : SP} (h : RdSp w ρ n q i s) {k : Nat} {x : Nat × Nat} (hk : (ρ k).1 = 0) : RdSp w (upd ρ k x) n q i s :=
  ⟨h.ch, h.chl, role_upd h.chr hk (by simp), h.tm, h.tml, role_upd h.tmr hk (by simp)⟩

/-- a reader, paths and spots that were read; ρ: whose a block is -/
structure Rcs (w wr : World) (b : Nat) (s : ByteArray) (x : Nat × Bool) (ρ : Nat → Nat × Nat) (n q : Nat) (ps : List ByteArray) (rs : List SpR) (lv ov : Value) (cs : List SP) : Prop where
  rd : Rd wr b s x.1 x.2
  ol : wr.ownsRow w.heap.size 9 1 lv ps.length (svs ps)
  oo : wr.ownsRow w.heap.size 117 6 ov cs.length (spv cs)
  len : cs.length = rs.length
  is : ∀ (i : Nat) c r, cs[i]? = some c → rs[i]? = some r → SpIs c r
  ok : ∀ (i : Nat) c, cs[i]? = some c → RdSp wr ρ n q i c
  rl : role ρ lv (20, q)
  ro : role ρ ov (21, q)
  lo : ∀ k, (ρ k).1 ≠ 0 → w.heap.size ≤ k ∧ k < wr.heap.size
  fr : Fr (fun k => k = b) w wr
  hb : b < w.heap.size

theorem Rcs.start {w : World} {b : Nat} {s : ByteArray} {x : Nat × Bool} (n q : Nat) (h : Rd w b s x.1 x.2) : Rcs w w b s x (fun _ => (0, 0)) n q [] [] (.slice none 0 0) (.slice none 0 0) [] :=
  ⟨h, World.ownsRow_nil _ _ _ _, World.ownsRow_nil _ _ _ _, rfl, fun i c r hc => by simp at hc, fun i c hc => by simp at hc, fun k hk => by simp [Value.ownBlock] at hk, fun k hk => by simp [Value.ownBlock] at hk, fun k hk => by simp at hk, Fr.refl _ _, h.lt⟩

section
variable {w wr w' : World} {b : Nat} {s : ByteArray} {x y : Nat × Bool} {ρ : Nat → Nat × Nat} {n q : Nat} {ps : List ByteArray} {rs : List SpR} {lv ov : Value} {cs : List SP}

theorem Rcs.free (h : Rcs w wr b s x ρ n q ps rs lv ov cs) {k : Nat} (hk : wr.heap.size ≤ k) : (ρ k).1 = 0 := by
  rcases Nat.decEq (ρ k).1 0 with e | e
  · have := (h.lo k e).2; omega
  · exact e
/-- the reader alone has turned, and what nobody here owns -/
theorem Rcs.keep (h : Rcs w wr b s x ρ n q ps rs lv ov cs) (hr : Rd w' b s y.1 y.2) (hf : Fr (fun k => k = b) w w') (hs : wr.heap.size ≤ w'.heap.size) (hk : ∀ k, (ρ k).1 ≠ 0 → w'.heap[k]? = wr.heap[k]?) : Rcs w w' b s y ρ n q ps rs lv ov cs :=
  ⟨hr, ownsRow_keep h.ol (fun k e => hk k (by rw [h.rl k e]; simp)), ownsRow_keep h.oo (fun k e => hk k (by rw [h.ro k e]; simp)), h.len, h.is, fun i c hc => (h.ok i c hc).keep hk, h.rl, h.ro, fun k e => ⟨(h.lo k e).1, Nat.lt_of_lt_of_le (h.lo k e).2 hs⟩, hf, h.hb⟩
theorem Rcs.onRd (h : Rcs w wr b s x ρ n q ps rs lv ov cs) (hr : Rd w' b s y.1 y.2) (hf : Fr (fun k => k = b) wr w') : Rcs w w' b s y ρ n q ps rs lv ov cs :=
  h.keep hr (h.fr.trans hf) hf.size (fun k e => hf.block k (h.lo k e).2 (fun hkb => by have := (h.lo k e).1; have := h.hb; omega))
theorem Rcs.below (h : Rcs w wr b s x ρ n q ps rs lv ov cs) (hf : Below wr.heap.size wr w') : Rcs w w' b s x ρ n q ps rs lv ov cs :=
  h.onRd (h.rd.keep (hf.block b h.rd.lt)) (Fr.of_below hf)
theorem Rcs.drewN (h : Rcs w wr b s x ρ n q ps rs lv ov cs) (m : Nat) : Rcs w (wr.drewN m) b s x ρ n q ps rs lv ov cs :=
  h.onRd (h.rd.keep rfl) ((Fr.refl _ _).drewN m)
theorem Rcs.setNo (h : Rcs w wr b s x ρ n q ps rs lv ov cs) (u : Bool) : Rcs w (wr.setCell ⟨b, 2, none⟩ (.bool u)) b s (x.1, u) ρ n q ps rs lv ov cs :=
  h.onRd (h.rd.setNo u) ((Fr.refl (fun k => k = b) wr).setCell (.inl rfl) _)
theorem Rcs.path (h : Rcs w wr b s x ρ n q ps rs lv ov cs) :
    Calls Tryz.prog 100 #[.pointer (some ⟨b, 0, none⟩)] wr fun e w' => e = .returned (.string (pathText s x.1)) ∧ Rcs w w' b s (pathAt s x.1, x.2 || !pathOk (pathText s x.1)) ρ n q ps rs lv ov cs := by
  refine (path_any b s x.1 x.2 wr h.rd).mono ?_
  rintro e w' ⟨rfl, hr, hf⟩
  exact ⟨rfl, h.onRd hr hf⟩
theorem Rcs.line (h : Rcs w wr b s x ρ n q ps rs lv ov cs) :
    Calls Tryz.prog 99 #[.pointer (some ⟨b, 0, none⟩)] wr fun e w' => e = .returned (.bool (lineB s x.1)) ∧ Rcs w w' b s x ρ n q ps rs lv ov cs := by
  refine (line_any b s x.1 x.2 wr h.rd).mono ?_
  rintro e w' ⟨rfl, m, rfl⟩
  exact ⟨rfl, h.drewN m⟩
end

theorem spotS_len (s : ByteArray) (n : Nat) (x : Nat × Bool) : (spotS s n x).ch.length = n ∧ (spotS s n x).tm.length = n := by
  unfold spotS
  split
  · exact ⟨by simp, by simp [timeS_len]⟩
  · split
    · exact ⟨by simp, by simp [timeS_len]⟩
    · exact ⟨by simp [spotB, timeS_len], by simp [spotB, timeS_len]⟩

/-- a spot is read: it belongs to replica q -/
theorem Rcs.spot {w wr : World} {b : Nat} {s : ByteArray} {x : Nat × Bool} {ρ : Nat → Nat × Nat} {n q : Nat} {ps : List ByteArray} {rs : List SpR} {lv ov : Value} {cs : List SP} (h : Rcs w wr b s x ρ n q ps rs lv ov cs) (h1 : 1 ≤ n) (h6 : n ≤ 6) :
    Calls Tryz.prog 101 #[.pointer (some ⟨b, 0, none⟩), .int .i64 n] wr fun e w' => ∃ c ρ', e = .returned (.agg c.cells.toArray) ∧ Rcs w w' b s (spotS s n x).st ρ' n q ps rs lv ov cs ∧ RdSp w' ρ' n q cs.length c ∧ SpIs c (spotS s n x) := by
  refine (spot_any b s x n h1 h6 wr h.rd).mono ?_
  rintro e w' ⟨c, rfl, hS⟩
  have hl := spotS_len s n x
  have lc : c.ch.length = n := by rw [hS.ch]; exact hl.1
  have lt : c.tm.length = n := by rw [hS.tm]; exact hl.2
  have hR := h.onRd hS.rd hS.fr
  obtain ⟨gc, cc, ec, hgc, hgcl⟩ := World.ownsRow.form hS.och (by omega)
  obtain ⟨gt, ct, et, hgt, hgtl⟩ := World.ownsRow.form hS.otm (by omega)
  have hne : gt ≠ gc := fun e => hS.apart gt (by rw [et]; rfl) (by rw [ec, e]; rfl)
  have f1 : (ρ gc).1 = 0 := h.free hgc
  have f2 : (upd ρ gc (40 + q, 2 * cs.length) gt).1 = 0 := by
    unfold upd
    rw [if_neg hne]
    exact h.free hgt
  have hz := h.fr.size
  refine ⟨c, upd (upd ρ gc (40 + q, 2 * cs.length)) gt (40 + q, 2 * cs.length + 1), rfl, ?_, ?_, ⟨hS.th, hS.tx, hS.by_, hS.num, hS.ch, hS.tm⟩⟩
  · refine ⟨hR.rd, hR.ol, hR.oo, hR.len, hR.is, fun i y hy => ((hR.ok i y hy).upd f1).upd f2, role_upd (role_upd hR.rl f1 (by simp)) f2 (by simp), role_upd (role_upd hR.ro f1 (by simp)) f2 (by simp), fun k hk => ?_, hR.fr, hR.hb⟩
    unfold upd at hk
    by_cases e2 : k = gt
    · subst e2; exact ⟨by omega, hgtl⟩
    · rw [if_neg e2] at hk
      by_cases e1 : k = gc
      · subst e1; exact ⟨by omega, hgcl⟩
      · rw [if_neg e1] at hk
        exact hR.lo k hk
  · refine ⟨ownsRow_base hS.och (fun _ _ => Nat.zero_le _), lc, ?_, ownsRow_base hS.otm (fun _ _ => Nat.zero_le _), lt, ?_⟩
    · intro k hk
      have : k = gc := by rw [ec] at hk; simpa [Value.ownBlock] using hk.symm
      subst this
      unfold upd
      rw [if_neg (fun e => hne e.symm), if_pos rfl]
    · intro k hk
      have : k = gt := by rw [et] at hk; simpa [Value.ownBlock] using hk.symm
      subst this
      unfold upd
      rw [if_pos rfl]

/-- a row has grown by one: who owns it now -/
theorem grown_role {W : World} {ρ : Nat → Nat × Nat} {v : Value} {g : Nat} {z : Nat × Nat} (hr : role ρ v z) (hat : v.ownBlock = some g ∨ g = W.heap.size) (hfree : ∀ k, W.heap.size ≤ k → (ρ k).1 = 0) :
    ∃ ρ' : Nat → Nat × Nat, ρ' g = z ∧ (∀ k, k ≠ g → ρ' k = ρ k) ∧ ((ρ g).1 ≠ 0 → ρ' g = ρ g) := by
  refine ⟨upd ρ g z, by unfold upd; rw [if_pos rfl], fun k hk => by unfold upd; rw [if_neg hk], fun hg => ?_⟩
  rcases hat with e | e
  · rw [hr g e]; unfold upd; rw [if_pos rfl]
  · exact absurd (hfree g (by omega)) hg

theorem Rcs.pushL {w W w1 : World} {b : Nat} {s : ByteArray} {x : Nat × Bool} {ρ : Nat → Nat × Nat} {n q : Nat} {ps : List ByteArray} {rs : List SpR} {lv ov : Value} {cs : List SP} (h : Rcs w W b s x ρ n q ps rs lv ov cs) (y : ByteArray) (g m cap : Nat)
    (hown : w1.ownsRow w.heap.size 9 1 (.slice (some ⟨g, 0, none⟩) m cap) (ps.length + 1) (svs ps ++ [.string y])) (hg : W.grownBy w1 lv.ownBlock) (hat : lv.ownBlock = some g ∨ g = W.heap.size) :
    ∃ ρ', Rcs w w1 b s x ρ' n q (ps ++ [y]) rs (.slice (some ⟨g, 0, none⟩) m cap) ov cs ∧ (∀ i c, RdSp W ρ n q i c → RdSp w1 ρ' n q i c) ∧ ∀ k, k ≠ g → ρ' k = ρ k := by
  obtain ⟨ρ', e1, e2, e3⟩ := grown_role h.rl hat (fun k hk => h.free hk)
  have hglt := (hown.lt g rfl)
  have keepB : ∀ k, (ρ k).1 ≠ 0 → ρ k ≠ (20, q) → w1.heap[k]? = W.heap[k]? := fun k hk hq => hg.block k (h.lo k hk).2 (fun e => hq (h.rl k e.symm))
  have up : ∀ k z, ρ k = z → z.1 ≠ 0 → ρ' k = z := fun k z hz hz0 => by
    by_cases hk : k = g
    · subst hk; rw [e3 (by rw [hz]; exact hz0), hz]
    · rw [e2 k hk, hz]
  have okk : ∀ i c, RdSp W ρ n q i c → RdSp w1 ρ' n q i c := fun i c hc =>
    ⟨ownsRow_keep hc.ch (fun k e => keepB k (by rw [hc.chr k e]; simp) (by rw [hc.chr k e]; simp; omega)), hc.chl, fun k e => up k _ (hc.chr k e) (by simp), ownsRow_keep hc.tm (fun k e => keepB k (by rw [hc.tmr k e]; simp) (by rw [hc.tmr k e]; simp; omega)), hc.tml, fun k e => up k _ (hc.tmr k e) (by simp)⟩
  have hbn : some b ≠ lv.ownBlock := fun e => by have := (h.ol.lt b e.symm).1; have := h.hb; omega
  have hbW : b < W.heap.size := h.rd.lt
  refine ⟨ρ', ⟨h.rd.keep (hg.block b hbW hbn), ?_, ?_, h.len, h.is, fun i c hc => okk i c (h.ok i c hc), ?_, fun k e => up k _ (h.ro k e) (by simp), fun k hk => ?_, h.fr.grown hg (fun k e => .inr (h.ol.lt k e).1), h.hb⟩, okk, e2⟩
  · rw [List.length_append, svs_append]; exact hown
  · exact ownsRow_keep h.oo (fun k e => keepB k (by rw [h.ro k e]; simp) (by rw [h.ro k e]; simp))
  · intro k hk
    have : k = g := by simpa [Value.ownBlock] using hk.symm
    subst this
    exact e1
  · by_cases hkg : k = g
    · subst hkg; exact hglt
    · rw [e2 k hkg] at hk
      exact ⟨(h.lo k hk).1, Nat.lt_of_lt_of_le (h.lo k hk).2 hg.size⟩

theorem Rcs.pushO {w W w1 : World} {b : Nat} {s : ByteArray} {x : Nat × Bool} {ρ : Nat → Nat × Nat} {n q : Nat} {ps : List ByteArray} {rs : List SpR} {lv ov : Value} {cs : List SP} (h : Rcs w W b s x ρ n q ps rs lv ov cs) (c : SP) (r : SpR) (hc : RdSp W ρ n q cs.length c) (hi : SpIs c r) (g m cap : Nat)
    (hown : w1.ownsRow w.heap.size 117 6 (.slice (some ⟨g, 0, none⟩) m cap) (cs.length + 1) (spv cs ++ c.cells)) (hg : W.grownBy w1 ov.ownBlock) (hat : ov.ownBlock = some g ∨ g = W.heap.size) :
    ∃ ρ', Rcs w w1 b s x ρ' n q ps (rs ++ [r]) lv (.slice (some ⟨g, 0, none⟩) m cap) (cs ++ [c]) := by
  obtain ⟨ρ', e1, e2, e3⟩ := grown_role h.ro hat (fun k hk => h.free hk)
  have hglt := (hown.lt g rfl)
  have keepB : ∀ k, (ρ k).1 ≠ 0 → ρ k ≠ (21, q) → w1.heap[k]? = W.heap[k]? := fun k hk hq => hg.block k (h.lo k hk).2 (fun e => hq (h.ro k e.symm))
  have up : ∀ k z, ρ k = z → z.1 ≠ 0 → ρ' k = z := fun k z hz hz0 => by
    by_cases hk : k = g
    · subst hk; rw [e3 (by rw [hz]; exact hz0), hz]
    · rw [e2 k hk, hz]
  have okk : ∀ i c, RdSp W ρ n q i c → RdSp w1 ρ' n q i c := fun i c hc =>
    ⟨ownsRow_keep hc.ch (fun k e => keepB k (by rw [hc.chr k e]; simp) (by rw [hc.chr k e]; simp; omega)), hc.chl, fun k e => up k _ (hc.chr k e) (by simp), ownsRow_keep hc.tm (fun k e => keepB k (by rw [hc.tmr k e]; simp) (by rw [hc.tmr k e]; simp; omega)), hc.tml, fun k e => up k _ (hc.tmr k e) (by simp)⟩
  have hbn : some b ≠ ov.ownBlock := fun e => by have := (h.oo.lt b e.symm).1; have := h.hb; omega
  have hbW : b < W.heap.size := h.rd.lt
  refine ⟨ρ', ⟨h.rd.keep (hg.block b hbW hbn), ?_, ?_, by simp [h.len], ?_, ?_, fun k e => up k _ (h.rl k e) (by simp), ?_, fun k hk => ?_, h.fr.grown hg (fun k e => .inr (h.oo.lt k e).1), h.hb⟩⟩
  · exact ownsRow_keep h.ol (fun k e => keepB k (by rw [h.rl k e]; simp) (by rw [h.rl k e]; simp))
  · rw [List.length_append, spv_append]
    have : spv [c] = c.cells := by simp [spv]
    rw [this]
    exact hown
  · intro i c' r' hc' hr'
    rcases Nat.lt_or_ge i cs.length with hi' | hi'
    · rw [List.getElem?_append_left hi'] at hc'
      rw [List.getElem?_append_left (by rw [← h.len]; exact hi')] at hr'
      exact h.is i c' r' hc' hr'
    · rw [List.getElem?_append_right hi'] at hc'
      rw [List.getElem?_append_right (by rw [← h.len]; exact hi')] at hr'
      have : i = cs.length := by
        rcases Nat.eq_or_lt_of_le hi' with e | e
        · exact e.symm
        · rw [List.getElem?_eq_none (by simp; omega)] at hc'; cases hc'
      subst this
      rw [← h.len] at hr'
      simp at hc' hr'
      subst hc' hr'
      exact hi
  · intro i c' hc'
    rcases Nat.lt_or_ge i cs.length with hi' | hi'
    · rw [List.getElem?_append_left hi'] at hc'
      exact okk i c' (h.ok i c' hc')
    · rw [List.getElem?_append_right hi'] at hc'
      have : i = cs.length := by
        rcases Nat.eq_or_lt_of_le hi' with e | e
        · exact e.symm
        · rw [List.getElem?_eq_none (by simp; omega)] at hc'; cases hc'
      subst this
      simp at hc'
      subst hc'
      exact okk _ _ hc
  · intro k hk
    have : k = g := by simpa [Value.ownBlock] using hk.symm
    subst this
    exact e1
  · by_cases hkg : k = g
    · subst hkg; exact hglt
    · rw [e2 k hkg] at hk
      exact ⟨(h.lo k hk).1, Nat.lt_of_lt_of_le (h.lo k hk).2 hg.size⟩

/-- .. and one spot more, which lies in block xb -/
structure Rcx (w W : World) (b : Nat) (s : ByteArray) (x : Nat × Bool) (ρ : Nat → Nat × Nat) (n q : Nat) (ps : List ByteArray) (rs : List SpR) (lv ov : Value) (cs : List SP) (c : SP) (r : SpR) (xb : Nat) : Prop where
  rc : Rcs w W b s x ρ n q ps rs lv ov cs
  ok : RdSp W ρ n q cs.length c
  is : SpIs c r
  blk : W.heap[xb]? = some (.cells c.cells.toArray 117 (0, 0))
  hx : w.heap.size ≤ xb
  free : (ρ xb).1 = 0

section
variable {w W w1 : World} {b : Nat} {s : ByteArray} {x : Nat × Bool} {ρ : Nat → Nat × Nat} {n q : Nat} {ps : List ByteArray} {rs : List SpR} {lv ov : Value} {cs : List SP} {c : SP} {r : SpR} {xb : Nat}

theorem Rcx.made (h : Rcs w W b s x ρ n q ps rs lv ov cs) (ok : RdSp W ρ n q cs.length c) (is : SpIs c r) : Rcx w ((W.alloc (.cells zero6 117)).setCells W.heap.size 0 c.cells) b s x ρ n q ps rs lv ov cs c r W.heap.size := by
  have B : Below W.heap.size W ((W.alloc (.cells zero6 117)).setCells W.heap.size 0 c.cells) := Below.setCells ((Below.refl _ W).alloc (Nat.le_refl _) _) (Nat.le_refl _) _ _
  refine ⟨h.below B, ok.keep (fun k hk => B.block k (h.lo k hk).2), is, ?_, h.fr.size, h.free (Nat.le_refl _)⟩
  have q : (W.alloc (.cells zero6 117)).heap[W.heap.size]? = some (.cells zero6 117 (0, 0)) := heap_alloc_new _ _
  simp only [World.setCells, SP.cells]
  rw [heap_set1 _ _ 5 _ _ _ _ (heap_set1 _ _ 4 _ _ _ _ (heap_set1 _ _ 3 _ _ _ _ (heap_set1 _ _ 2 _ _ _ _ (heap_set1 _ _ 1 _ _ _ _ (heap_set1 _ _ 0 _ _ _ _ q)))))]
  simp [zero6]
theorem Rcx.xlt (h : Rcx w W b s x ρ n q ps rs lv ov cs c r xb) : xb < W.heap.size := (Array.getElem?_eq_some_iff.1 h.blk).1
theorem Rcx.cells6 (h : Rcx w W b s x ρ n q ps rs lv ov cs c r xb) : W.cell? ⟨xb, 0, none⟩ = some (.bool c.there) ∧ W.cell? ⟨xb, 1, none⟩ = some (.string c.text) ∧ W.cell? ⟨xb, 2, none⟩ = some (.int .i64 c.by_) ∧ W.cell? ⟨xb, 3, none⟩ = some (.int .i64 c.num) ∧ W.cell? ⟨xb, 4, none⟩ = some c.chv ∧ W.cell? ⟨xb, 5, none⟩ = some c.tmv := by
  refine ⟨?_, ?_, ?_, ?_, ?_, ?_⟩ <;> simp only [World.cell?, h.blk] <;> rfl
theorem Rcx.setNo (h : Rcx w W b s x ρ n q ps rs lv ov cs c r xb) (u : Bool) : Rcx w (W.setCell ⟨b, 2, none⟩ (.bool u)) b s (x.1, u) ρ n q ps rs lv ov cs c r xb := by
  have hb := h.rc.hb
  have hx := h.hx
  refine ⟨h.rc.setNo u, h.ok.keep (fun k hk => heap_set_other ?_), h.is, by rw [heap_set_other (by simp only; omega)]; exact h.blk, hx, h.free⟩
  have := (h.rc.lo k hk).1
  simp only
  omega
theorem Rcx.alloc (h : Rcx w W b s x ρ n q ps rs lv ov cs c r xb) (o : Obj) : Rcx w (W.alloc o) b s x ρ n q ps rs lv ov cs c r xb := by
  have B : Below W.heap.size W (W.alloc o) := (Below.refl _ W).alloc (Nat.le_refl _) o
  exact ⟨h.rc.below B, h.ok.keep (fun k hk => B.block k (h.rc.lo k hk).2), h.is, by rw [B.block xb h.xlt]; exact h.blk, h.hx, h.free⟩
theorem Rcx.pushL (h : Rcx w W b s x ρ n q ps rs lv ov cs c r xb) (y : ByteArray) (g m cap : Nat)
    (hown : w1.ownsRow w.heap.size 9 1 (.slice (some ⟨g, 0, none⟩) m cap) (ps.length + 1) (svs ps ++ [.string y])) (hg : W.grownBy w1 lv.ownBlock) (hat : lv.ownBlock = some g ∨ g = W.heap.size) :
    ∃ ρ', Rcx w w1 b s x ρ' n q (ps ++ [y]) rs (.slice (some ⟨g, 0, none⟩) m cap) ov cs c r xb := by
  obtain ⟨ρ', hr, hk, hz⟩ := h.rc.pushL y g m cap hown hg hat
  have hne : some xb ≠ lv.ownBlock := fun e => by have := h.rc.rl xb e.symm; have f := h.free; rw [this] at f; simp at f
  refine ⟨ρ', hr, hk _ c h.ok, h.is, by rw [hg.block xb h.xlt hne]; exact h.blk, h.hx, ?_⟩
  have hxg : xb ≠ g := fun e => by
    rcases hat with q1 | q1
    · exact hne (by rw [e]; exact q1.symm)
    · have := h.xlt; omega
  rw [hz xb hxg]
  exact h.free
theorem Rcx.pushO (h : Rcx w W b s x ρ n q ps rs lv ov cs c r xb) (g m cap : Nat)
    (hown : w1.ownsRow w.heap.size 117 6 (.slice (some ⟨g, 0, none⟩) m cap) (cs.length + 1) (spv cs ++ c.cells)) (hg : W.grownBy w1 ov.ownBlock) (hat : ov.ownBlock = some g ∨ g = W.heap.size) :
    ∃ ρ', Rcs w w1 b s x ρ' n q ps (rs ++ [r]) lv (.slice (some ⟨g, 0, none⟩) m cap) (cs ++ [c]) := h.rc.pushO c r h.ok h.is g m cap hown hg hat
end

end Go.Proofs.YtaelaldmibgibaaGreatDoor

namespace Go.Proofs.YtaelaldmibgibaaGreatDoor
open Go.RowKit
attribute [local go_sem ↓] stSpot
attribute [local go_sem] run_stSpot

def noOf : Value → Bool
  | .bool b => b
  | _ => false
/-- how much is left to read -/
def toRead (s : ByteArray) (wr : World) (b : Nat) : Nat := if noOf (cv wr b 2) = true then 0 else s.size - (intOf (cv wr b 1)).toNat + 1
theorem Rd.toRead {w : World} {b : Nat} {s : ByteArray} {a : Nat} {no : Bool} (h : Rd w b s a no) : toRead s w b = if no = true then 0 else s.size - a + 1 := by
  unfold Go.Proofs.YtaelaldmibgibaaGreatDoor.toRead
  simp only [cv, h.c1, h.c2, Option.getD_some, noOf, intOf, Int.toNat_natCast]

theorem map_snoc1 (L : Rds) (p : ByteArray) (r : SpR) : (L ++ [(p, r)]).map (·.1) = L.map (·.1) ++ [p] := by simp
theorem map_snoc2 (L : Rds) (p : ByteArray) (r : SpR) : (L ++ [(p, r)]).map (·.2) = L.map (·.2) ++ [r] := by simp
theorem cell_new_set (W : World) (p : Addr) (v y : Value) (t : TypeId) : ((W.setCell p v).alloc (.cells #[y] t)).cell? ⟨W.heap.size, 0, none⟩ = some y := by
  have q : ((W.setCell p v).alloc (.cells #[y] t)).heap[(W.setCell p v).heap.size]? = some (.cells #[y] t (0, 0)) := heap_alloc_new _ _
  rw [size_setCell] at q
  simp only [World.cell?, q]
  rfl
theorem size_alloc_le (W : World) (o : Obj) : W.heap.size ≤ (W.alloc o).heap.size := by simp
theorem own_as {w : World} {base : Nat} {e : TypeId} {k : Nat} {v : Value} {n m : Nat} {xs : List Value} (hn : n = m) (h : w.ownsRow base e k v n xs) : w.ownsRow base e k v m xs := hn ▸ h
theorem row_last {w : World} {base g cap K : Nat} {ps : List ByteArray} {p : ByteArray} (hl : ps.length = K + 1) (hp : ps[K]? = some p) (h : w.ownsRow base 9 1 (.slice (some ⟨g, 0, none⟩) (K + 1) cap) ps.length (svs ps)) : w.cell? ⟨g, K, none⟩ = some (.string p) := by
  rw [hl] at h
  rw [World.ownsRow.cellAt h K (by omega)]
  simp [svs, hp]
/-- what one more record makes of the reader -/
def recNext (s : ByteArray) (n : Nat) (y : Nat × Bool) (L : Rds) : Nat × Bool := ((recS s n y).st.1, (recS s n y).st.2 || notBehind L (pathText s y.1))
theorem recNext_lt (s : ByteArray) (n : Nat) (y : Nat × Bool) (L : Rds) (hy : y.1 ≤ s.size) (hz : (recNext s n y L).2 = false) : y.1 < (recNext s n y L).1 ∧ (recNext s n y L).1 ≤ s.size := by
  unfold recNext at hz ⊢
  simp only [Bool.or_eq_false_iff] at hz
  obtain ⟨_, _, d, _, _, hG⟩ := rec_got s n y hy hz.1
  exact ⟨hG.lt (by simp [DS.T]), hG.le hy⟩

set_option maxRecDepth 100000 in
set_option maxHeartbeats 4000000 in
theorem records_any (b : Nat) (s : ByteArray) (x : Nat × Bool) (n q : Nat) (h1 : 1 ≤ n) (h6 : n ≤ 6) (w : World) (h : Rd w b s x.1 x.2) :
    Calls Tryz.prog 53 #[.pointer (some ⟨b, 0, none⟩), .int .i64 n] w fun e w' => ∃ lv ov cs ρ, e = .returned (.tuple #[lv, ov]) ∧ Rcs w w' b s (recsS s n (s.size - x.1 + 1) x []).1 ρ n q ((recsS s n (s.size - x.1 + 1) x []).2.map (·.1)) ((recsS s n (s.size - x.1 + 1) x []).2.map (·.2)) lv ov cs := by
  have R0 : Hid (Rcs w w b s x (fun _ => (0, 0)) n q [] [] (.slice none 0 0) (.slice none 0 0) []) := Rcs.start n q h
  generalize hF : recsS s n (s.size - x.1 + 1) x [] = FIN
  have HF := hide hF
  clear h hF
  go_enter Tryz.func53, Tryz.ntmps53
  go_wp2_with (go_at_call 99; refine (R0.out.line).mono ?_; rintro e w1 ⟨rfl, h1'⟩; have R1 := hide h1'; clear h1')
  go_loopw [6, 7, 8] (fun lv ov mo wr => ∃ (f : Nat) (y : Nat × Bool) (L : Rds) (ρ : Nat → Nat × Nat) (cs : List SP), mo = .bool (lineB s y.1) ∧ (y.2 = false → s.size - y.1 < f) ∧ Hid (Rcs w wr b s y ρ n q (L.map (·.1)) (L.map (·.2)) lv ov cs) ∧ Hid (recsS s n f y L = FIN) ∧ Hid (L = [] → lv = .slice none 0 0 ∧ ov = .slice none 0 0) ∧ Hid (y.2 = false → L.length ≤ y.1)) (fun _ _ _ wr => toRead s wr b)
  case atStart => exact ⟨_, x, [], _, [], rfl, fun _ => by omega, R1, HF, fun _ => ⟨rfl, rfl⟩, fun _ => Nat.zero_le _⟩
  case round =>
    obtain ⟨f, y, L, ρ, cs, rfl, hf, hR, hE, hN, hLL⟩ := hrel
    have c2 := hR.out.rd.c2
    have ha := hR.out.rd.ha
    have HM := hide hR.out.rd.toRead
    clear R0 R1 HF
    by_cases hgo : lineB s y.1 = true ∧ y.2 = false
    · obtain ⟨hl, hy⟩ := hgo
      obtain ⟨f', rfl⟩ : ∃ f', f = f' + 1 := ⟨f - 1, by have := hf hy; omega⟩
      have E' : Hid (recsS s n f' (recNext s n y L) (L ++ [(pathText s y.1, recS s n y)]) = FIN) := by
        unfold Hid
        rw [← hE.out, recsS, if_pos ⟨hl, hy⟩]
        rfl
      have F' : Hid ((recNext s n y L).2 = false → y.1 < (recNext s n y L).1 ∧ (recNext s n y L).1 ≤ s.size) := recNext_lt s n y L ha
      have hst : Hid (spotS s n (pathAt s y.1, y.2 || !pathOk (pathText s y.1)) = recS s n y) := rfl
      have hml : L.length ≤ 1000000000000 := by have := hLL.out hy; have := hR.out.rd.hs; omega
      have hcl : cs.length = L.length := by rw [hR.out.len]; simp
      have L' : Hid ((recNext s n y L).2 = false → (L ++ [(pathText s y.1, recS s n y)]).length ≤ (recNext s n y L).1) := fun e => by have := F'.out e; have := hLL.out hy; simp; omega
      have M' : Hid (∀ W z, Rd W b s (recNext s n y L).1 (recNext s n y L).2 → (z = W) → toRead s z b < toRead s wr b) := fun W z hW e => by
        subst e
        rw [hW.toRead, HM.out, hy]
        simp only [Bool.false_eq_true, if_false]
        split
        · omega
        · next hz =>
          have := F'.out (Bool.eq_false_iff.2 hz)
          omega
      have hfn : Hid ((recNext s n y L).2 = false → s.size - (recNext s n y L).1 < f') := fun e => by have := F'.out e; have := hf hy; omega
      clear hE hLL HM hf F'
      rw [hl]
      rw [hy] at c2
      by_cases hLn : L = []
      · obtain ⟨rfl, rfl⟩ := hN.out hLn
        subst hLn
        have nx : Hid (recNext s n y [] = (recS s n y).st) := by unfold Hid recNext notBehind; simp
        obtain rfl : cs = [] := List.length_eq_zero_iff.1 hcl
        clear hN
        go_wp2_with (first
          | (go_at_call 99; have q := RO; refine (RO.out.line).mono ?_; rintro e w8 ⟨rfl, h8⟩; have R8 := hide h8; clear h8 RO)
          | (at_builtin; have q := RL; refine app_spot _ rfl (.tmp 46) (.tmp 48) rfl w.heap.size _ _ _ rfl (World.ownsRow_nil _ _ _ _) w5.heap.size t0 t1 t2 t3 _ _ _ _ _ _ rfl (heap_alloc_new _ _) (by omega) (by have := RL.out.rc.fr.size; simp; omega) ?_; intro g6 c6 w6 ho6 hgr6 hat6 hl6; obtain ⟨ρ6, h6x⟩ := ((RL.out.alloc _).pushO g6 _ c6 ho6 hgr6 hat6); have RO := hide h6x; clear h6x RL)
          | (at_builtin; have q := RX; refine app_str _ rfl (.tmp 42) (.tmp 44) rfl w.heap.size _ _ _ rfl (World.ownsRow_nil _ _ _ _) _ (pathText s y.1) rfl (by simp) (by omega) (by have := RX.out.rc.fr.size; simp at this ⊢; omega) ?_; intro g5 c5 w5 ho5 hgr5 hat5 hl5; obtain ⟨ρ5, h5x⟩ := ((RX.out.alloc _).pushL (pathText s y.1) g5 _ c5 ho5 hgr5 hat5); have RL := hide h5x; obtain ⟨k0, k1, k2, k3, k4, k5⟩ := h5x.cells6; dsimp only at k0 k1 k2 k3 k4 k5; clear h5x RX)
          | (go_at_call 101; have q := R2; refine (R2.out.spot h1 h6).mono ?_; rw [hst.out]; rintro e w3 ⟨c, ρ3, rfl, h3, hok, his⟩; obtain ⟨t0, t1, t2, t3, chv, ch, tmv, tm⟩ := c; obtain ⟨gc, cc, ec, _, _⟩ := World.ownsRow.form hok.ch (by rw [hok.chl]; omega); obtain ⟨gt, ct, et, _, _⟩ := World.ownsRow.form hok.tm (by rw [hok.tml]; omega); dsimp only at ec et; subst ec et; have RX := hide (Rcx.made h3 hok his); have ht3 : (w3.alloc (.cells zero6 117)).there w3.heap.size 0 6 := (Mine.made' w3 zero6 117 (n := 6) rfl).there; simp only [zero6] at ht3; dsimp only [SP.cells, zero6] at RX ⊢; clear h3 hok his R2)
          | (go_at_call 100; refine (hR.out.path).mono ?_; rintro e w2 ⟨rfl, h2⟩; have R2 := hide h2; clear h2 hR))
        have R9 := R8.out
        rw [← nx.out] at R9
        exact ⟨⟨f', recNext s n y [], [(pathText s y.1, recS s n y)], ρ6, _, by rw [nx.out], hfn.out, R9, E', fun e => absurd e (by simp), L'⟩, M'.out _ _ R9.rd rfl⟩
      · obtain ⟨L0, l0, rfl⟩ : ∃ L0 l0, L = L0 ++ [l0] := by
          rcases List.eq_nil_or_concat L with e | ⟨L0, l0, e⟩
          · exact absurd e hLn
          · exact ⟨L0, l0, by simpa using e⟩
        have hlen : ((L0 ++ [l0]).map (·.1)).length = L0.length + 1 := by simp
        have hla : ((L0 ++ [l0]).map (·.1))[L0.length]? = some l0.1 := by simp
        replace hcl : cs.length = L0.length + 1 := by simpa using hcl
        replace hml : L0.length + 1 ≤ 1000000000000 := by simpa using hml
        have fl := World.ownsRow.form hR.out.ol (by rw [hlen]; omega)
        have fo := World.ownsRow.form hR.out.oo (by rw [hcl]; omega)
        rw [hlen] at fl
        rw [hcl] at fo
        obtain ⟨g, cap, rfl, _, _⟩ := fl
        obtain ⟨go, co, rfl, _, _⟩ := fo
        have nbE : Hid (notBehind (L0 ++ [l0]) (pathText s y.1) = !Op.bytesLess l0.1.toList (pathText s y.1).toList) := by unfold Hid notBehind slt; simp
        clear hN hLn
        cases hs : Op.bytesLess l0.1.toList (pathText s y.1).toList with
        | true =>
          have nx : Hid (recNext s n y (L0 ++ [l0]) = (recS s n y).st) := by unfold Hid recNext; rw [nbE.out, hs]; simp
          clear nbE
          go_wp2_with (first
            | (go_at_call 99; have q := RO; refine (RO.out.line).mono ?_; rintro e w8 ⟨rfl, h8⟩; have R8 := hide h8; clear h8 RO)
            | (at_builtin; have q := RL; refine app_spot _ rfl (.tmp 46) (.tmp 48) rfl w.heap.size _ _ _ rfl (OO.alloc _) w5.heap.size t0 t1 t2 t3 _ _ _ _ _ _ rfl (heap_alloc_new _ _) (by omega) (by have := RL.out.rc.fr.size; simp; omega) ?_; intro g6 c6 w6 ho6 hgr6 hat6 hl6; obtain ⟨ρ6, h6x⟩ := ((RL.out.alloc _).pushO g6 _ c6 (by rw [hcl]; exact ho6) hgr6 hat6); have RO := hide h6x; clear h6x RL OO)
            | (at_builtin; have q := RX; refine app_str _ rfl (.tmp 42) (.tmp 44) rfl w.heap.size _ _ _ rfl ((own_as hlen RX.out.rc.ol).alloc _) _ (pathText s y.1) rfl (by simp) (by omega) (by have := RX.out.rc.fr.size; simp at this ⊢; omega) ?_; intro g5 c5 w5 ho5 hgr5 hat5 hl5; obtain ⟨ρ5, h5x⟩ := ((RX.out.alloc _).pushL (pathText s y.1) g5 _ c5 (by rw [hlen]; exact ho5) hgr5 hat5); have RL := hide h5x; have OO := own_as hcl h5x.rc.oo; obtain ⟨k0, k1, k2, k3, k4, k5⟩ := h5x.cells6; dsimp only at k0 k1 k2 k3 k4 k5; clear h5x RX)
            | (go_at_call 101; have q := R2; refine (R2.out.spot h1 h6).mono ?_; rw [hst.out]; rintro e w3 ⟨c, ρ3, rfl, h3, hok, his⟩; obtain ⟨t0, t1, t2, t3, chv, ch, tmv, tm⟩ := c; obtain ⟨gc, cc, ec, _, _⟩ := World.ownsRow.form hok.ch (by rw [hok.chl]; omega); obtain ⟨gt, ct, et, _, _⟩ := World.ownsRow.form hok.tm (by rw [hok.tml]; omega); dsimp only at ec et; subst ec et; have RX := hide (Rcx.made h3 hok his); have ht3 : (w3.alloc (.cells zero6 117)).there w3.heap.size 0 6 := (Mine.made' w3 zero6 117 (n := 6) rfl).there; simp only [zero6] at ht3; dsimp only [SP.cells, zero6] at RX ⊢; have kl := row_last hlen hla RX.out.rc.ol; have cb := RX.out.rc.rd.c2; have fb := RX.out.rc.rd.fz 2; clear h3 hok his R2)
            | (go_at_call 100; refine (hR.out.path).mono ?_; rintro e w2 ⟨rfl, h2⟩; have R2 := hide h2; clear h2 hR))
          have R9 := R8.out
          rw [← nx.out, ← map_snoc1, ← map_snoc2] at R9
          exact ⟨⟨f', recNext s n y (L0 ++ [l0]), L0 ++ [l0] ++ [(pathText s y.1, recS s n y)], ρ6, _, by rw [nx.out], hfn.out, R9, E', fun e => absurd e (by simp), L'⟩, M'.out _ _ R9.rd rfl⟩
        | false =>
          have nx : Hid (recNext s n y (L0 ++ [l0]) = ((recS s n y).st.1, true)) := by unfold Hid recNext; rw [nbE.out, hs]; simp
          clear nbE
          go_wp2_with (first
            | (go_at_call 99; have q := RO; refine (RO.out.line).mono ?_; rintro e w8 ⟨rfl, h8⟩; have R8 := hide h8; clear h8 RO)
            | (at_builtin; have q := RL; refine app_spot _ rfl (.tmp 46) (.tmp 48) rfl w.heap.size _ _ _ rfl (OO.alloc _) w5.heap.size t0 t1 t2 t3 _ _ _ _ _ _ rfl (heap_alloc_new _ _) (by omega) (by have := RL.out.rc.fr.size; simp; omega) ?_; intro g6 c6 w6 ho6 hgr6 hat6 hl6; obtain ⟨ρ6, h6x⟩ := ((RL.out.alloc _).pushO g6 _ c6 (by rw [hcl]; exact ho6) hgr6 hat6); have RO := hide h6x; clear h6x RL OO)
            | (at_builtin; have q := RX; refine app_str _ rfl (.tmp 42) (.tmp 44) rfl w.heap.size _ _ _ rfl ((own_as hlen (RX.out.setNo true).rc.ol).alloc _) _ (pathText s y.1) rfl (cell_new_set _ _ _ _ _) (by omega) (Nat.le_trans (RX.out.setNo true).rc.fr.size (size_alloc_le _ _)) ?_; intro g5 c5 w5 ho5 hgr5 hat5 hl5; obtain ⟨ρ5, h5x⟩ := (((RX.out.setNo true).alloc _).pushL (pathText s y.1) g5 _ c5 (by rw [hlen]; exact ho5) hgr5 hat5); have RL := hide h5x; have OO := own_as hcl h5x.rc.oo; obtain ⟨k0, k1, k2, k3, k4, k5⟩ := h5x.cells6; dsimp only at k0 k1 k2 k3 k4 k5; clear h5x RX)
            | (go_at_call 101; have q := R2; refine (R2.out.spot h1 h6).mono ?_; rw [hst.out]; rintro e w3 ⟨c, ρ3, rfl, h3, hok, his⟩; obtain ⟨t0, t1, t2, t3, chv, ch, tmv, tm⟩ := c; obtain ⟨gc, cc, ec, _, _⟩ := World.ownsRow.form hok.ch (by rw [hok.chl]; omega); obtain ⟨gt, ct, et, _, _⟩ := World.ownsRow.form hok.tm (by rw [hok.tml]; omega); dsimp only at ec et; subst ec et; have RX := hide (Rcx.made h3 hok his); have ht3 : (w3.alloc (.cells zero6 117)).there w3.heap.size 0 6 := (Mine.made' w3 zero6 117 (n := 6) rfl).there; simp only [zero6] at ht3; dsimp only [SP.cells, zero6] at RX ⊢; have kl := row_last hlen hla RX.out.rc.ol; have cb := RX.out.rc.rd.c2; have fb := RX.out.rc.rd.fz 2; clear h3 hok his R2)
            | (go_at_call 100; refine (hR.out.path).mono ?_; rintro e w2 ⟨rfl, h2⟩; have R2 := hide h2; clear h2 hR))
          have R9 := R8.out
          rw [← nx.out, ← map_snoc1, ← map_snoc2] at R9
          exact ⟨⟨f', recNext s n y (L0 ++ [l0]), L0 ++ [l0] ++ [(pathText s y.1, recS s n y)], ρ6, _, by rw [nx.out], hfn.out, R9, E', fun e => absurd e (by simp), L'⟩, M'.out _ _ R9.rd rfl⟩
    · have E : Hid (FIN = (y, L)) := by
        unfold Hid
        rw [← hE.out]
        cases f with
        | zero => rfl
        | succ f => rw [recsS, if_neg hgo]
      have how : lineB s y.1 = false ∨ (lineB s y.1 = true ∧ y.2 = true) := by
        cases hl : lineB s y.1
        · exact .inl rfl
        · refine .inr ⟨rfl, ?_⟩
          cases hy : y.2
          · exact absurd ⟨hl, hy⟩ hgo
          · rfl
      have HR : Hid (∀ W, wr = W → ∃ ρ cs, Rcs w W b s FIN.1 ρ n q (FIN.2.map (·.1)) (FIN.2.map (·.2)) _ _ cs) := fun W e => by
        rw [E.out, ← e]
        exact ⟨ρ, cs, hR.out⟩
      clear hE hN hR HM hLL
      rcases how with hl | ⟨hl, hy⟩
      · rw [hl]
        go_wp2
        go_ret2
        obtain ⟨ρ, cs, hr⟩ := HR.out _ rfl
        exact ⟨_, _, cs, ρ, rfl, hr⟩
      · rw [hl]
        rw [hy] at c2
        go_wp2
        go_ret2
        obtain ⟨ρ, cs, hr⟩ := HR.out _ rfl
        exact ⟨_, _, cs, ρ, rfl, hr⟩

end Go.Proofs.YtaelaldmibgibaaGreatDoor

namespace Go.Proofs.YtaelaldmibgibaaGreatDoor
open Go.RowKit

/-- a replica's common time is another list now -/
theorem RefRep.putCom {w : World} {b : Nat} {ρ : Nat → Nat × Nat} {S : RS} (h : RefRep w b ρ S) (cg cc r : Nat) (es : S.cv = .slice (some ⟨cg, 0, none⟩) S.n cc) (hrn : r < S.n) (v : Value) (l : List Int)
    (hv : intRow w v l) (hl : l.length = S.n) (hr : role ρ v (4, r)) :
    RefRep (w.setCell ⟨cg, r, none⟩ v) b ρ { S with coms := S.coms.set r (v, l) } := by
  have hρ : ρ cg = (3, 0) := h.rc cg (by rw [es]; rfl)
  have hrl : r < S.coms.length := by have := h.coml; omega
  refine { net := ?_, n1 := h.n1, n6 := h.n6, p := ownsRow_far h.p h.rp hρ (by simp), c := ?_, s := ownsRow_far h.s h.rs hρ (by simp), com := ?_, row := ?_, sp := ?_, rb := h.rb, rp := h.rp, rc := h.rc, rs := h.rs, lt := ?_ }
  · rw [heap_set_other (by simp only; intro e; rw [← e, h.rb] at hρ; simp at hρ)]; exact h.net
  · simp only [List.map_set]
    have hs := h.c
    rw [es] at hs ⊢
    exact (World.ownsRow.stored hs r v).1
  · intro r' y hy
    by_cases e : r' = r
    · subst e
      simp [hrl] at hy
      subst hy
      exact ⟨ownsRow_far hv hr hρ (by simp), hl, hr⟩
    · rw [List.getElem?_set_ne (Ne.symm e)] at hy
      have q := h.com r' y hy
      exact ⟨ownsRow_far q.1 q.2.2 hρ (by simp), q.2⟩
  · intro r' y hy
    exact ⟨ownsRow_far (h.row r' y hy).1 (h.row r' y hy).2 hρ (by simp), (h.row r' y hy).2⟩
  · intro r' y hy t ht
    exact (h.sp r' y hy t ht).far hρ (by simp) (by simp)
  · intro k hk
    rw [size_setCell]; exact h.lt k hk

/-- what was read for a replica -/
structure RR where
  lv : Value
  ov : Value
  ps : List ByteArray
  cs : List SP
  rs : List SpR

structure Rep1 (w : World) (σ : Nat → Nat × Nat) (n q : Nat) (r : RR) : Prop where
  ol : w.ownsRow 0 9 1 r.lv r.ps.length (svs r.ps)
  oo : w.ownsRow 0 117 6 r.ov r.cs.length (spv r.cs)
  len : r.cs.length = r.rs.length
  is : ∀ (i : Nat) c x, r.cs[i]? = some c → r.rs[i]? = some x → SpIs c x
  ok : ∀ (i : Nat) c, r.cs[i]? = some c → RdSp w σ n q i c
  rl : role σ r.lv (20, q)
  ro : role σ r.ov (21, q)
theorem Rep1.keep {w w' : World} {σ : Nat → Nat × Nat} {n q : Nat} {r : RR} (h : Rep1 w σ n q r) (hk : ∀ k, (σ k).1 ≠ 0 → w'.heap[k]? = w.heap[k]?) : Rep1 w' σ n q r :=
  ⟨ownsRow_keep h.ol (fun k e => hk k (by rw [h.rl k e]; simp)), ownsRow_keep h.oo (fun k e => hk k (by rw [h.ro k e]; simp)), h.len, h.is, fun i c hc => (h.ok i c hc).keep hk, h.rl, h.ro⟩
/-- the same under another account of whose a block is, which agrees where it spoke; what may have turned is the outer lists -/
theorem Rep1.to {w w' : World} {σ σ' : Nat → Nat × Nat} {n q : Nat} {r : RR} (h : Rep1 w σ n q r) (hk : ∀ k z, σ k = z → z.1 ≠ 0 → z.1 ≠ 22 → z.1 ≠ 23 → w'.heap[k]? = w.heap[k]? ∧ σ' k = z) (hq : q < 6) : Rep1 w' σ' n q r := by
  have a : ∀ k, r.lv.ownBlock = some k → w'.heap[k]? = w.heap[k]? ∧ σ' k = (20, q) := fun k e => hk k _ (h.rl k e) (by simp) (by simp) (by simp)
  have b : ∀ k, r.ov.ownBlock = some k → w'.heap[k]? = w.heap[k]? ∧ σ' k = (21, q) := fun k e => hk k _ (h.ro k e) (by simp) (by simp) (by simp)
  refine ⟨ownsRow_keep h.ol (fun k e => (a k e).1), ownsRow_keep h.oo (fun k e => (b k e).1), h.len, h.is, fun i c hc => ?_, fun k e => (a k e).2, fun k e => (b k e).2⟩
  have o := h.ok i c hc
  have d : ∀ k, c.chv.ownBlock = some k → w'.heap[k]? = w.heap[k]? ∧ σ' k = (40 + q, 2 * i) := fun k e => hk k _ (o.chr k e) (by simp) (by simp; omega) (by simp; omega)
  have f : ∀ k, c.tmv.ownBlock = some k → w'.heap[k]? = w.heap[k]? ∧ σ' k = (40 + q, 2 * i + 1) := fun k e => hk k _ (o.tmr k e) (by simp) (by simp; omega) (by simp; omega)
  exact ⟨ownsRow_keep o.ch (fun k e => (d k e).1), o.chl, fun k e => (d k e).2, ownsRow_keep o.tm (fun k e => (f k e).1), o.tml, fun k e => (f k e).2⟩

/-- all replicas that were read, and the two lists that hold their lists -/
structure Rdb (base : Nat) (w : World) (σ : Nat → Nat × Nat) (n : Nat) (R : List RR) (nv xv : Value) (ns xs : List Value) : Prop where
  on : w.ownsRow base 25 1 nv ns.length ns
  ox : w.ownsRow base 112 1 xv xs.length xs
  rn : role σ nv (22, 0)
  rx : role σ xv (23, 0)
  rep : ∀ (q : Nat) r, R[q]? = some r → Rep1 w σ n q r
  lo : ∀ k, (σ k).1 ≠ 0 → base ≤ k ∧ k < w.heap.size
  le : R.length ≤ 6

theorem Rdb.start (base : Nat) (w : World) (n : Nat) : Rdb base w (fun _ => (0, 0)) n [] (.slice none 0 0) (.slice none 0 0) [] [] :=
  ⟨World.ownsRow_nil _ _ _ _, World.ownsRow_nil _ _ _ _, fun k hk => by simp [Value.ownBlock] at hk, fun k hk => by simp [Value.ownBlock] at hk, fun q r hr => by simp at hr, fun k hk => by simp at hk, by simp⟩

section
variable {base : Nat} {w w' : World} {σ : Nat → Nat × Nat} {n : Nat} {R : List RR} {nv xv : Value} {ns xs : List Value}

theorem Rdb.free (h : Rdb base w σ n R nv xv ns xs) {k : Nat} (hk : w.heap.size ≤ k) : (σ k).1 = 0 := by
  rcases Nat.decEq (σ k).1 0 with e | e
  · have := (h.lo k e).2; omega
  · exact e
theorem Rdb.keep (h : Rdb base w σ n R nv xv ns xs) (hs : w.heap.size ≤ w'.heap.size) (hk : ∀ k, (σ k).1 ≠ 0 → w'.heap[k]? = w.heap[k]?) : Rdb base w' σ n R nv xv ns xs :=
  ⟨ownsRow_keep h.on (fun k e => hk k (by rw [h.rn k e]; simp)), ownsRow_keep h.ox (fun k e => hk k (by rw [h.rx k e]; simp)), h.rn, h.rx, fun q r hr => (h.rep q r hr).keep hk, fun k e => ⟨(h.lo k e).1, Nat.lt_of_lt_of_le (h.lo k e).2 hs⟩, h.le⟩
theorem Rdb.below (h : Rdb base w σ n R nv xv ns xs) (hb : Below w.heap.size w w') : Rdb base w' σ n R nv xv ns xs := h.keep hb.size (fun k e => hb.block k (h.lo k e).2)

/-- one more replica is read -/
theorem Rdb.add (h : Rdb base w σ n R nv xv ns xs) (hb : base ≤ w.heap.size) {b : Nat} {s : ByteArray} {x : Nat × Bool} {ρ : Nat → Nat × Nat} {ps : List ByteArray} {rs : List SpR} {lv ov : Value} {cs : List SP} (hc : Rcs w w' b s x ρ n R.length ps rs lv ov cs) (hbn : (σ b).1 = 0) (hle : R.length < 6) :
    ∃ σ', Rdb base w' σ' n (R ++ [⟨lv, ov, ps, cs, rs⟩]) nv xv ns xs ∧ ∀ k, (σ' k).1 ≠ 0 → (σ k).1 ≠ 0 ∨ w.heap.size ≤ k := by
  have old : ∀ k z, σ k = z → z.1 ≠ 0 → w'.heap[k]? = w.heap[k]? ∧ (fun k => if (ρ k).1 ≠ 0 then ρ k else σ k) k = z := fun k z hz h0 => by
    have hk := h.lo k (by rw [hz]; exact h0)
    refine ⟨hc.fr.block k hk.2 (fun e => by subst e; rw [hz] at hbn; exact h0 hbn), ?_⟩
    have : ¬ (ρ k).1 ≠ 0 := fun q => by have := (hc.lo k q).1; omega
    simp only [this, if_false]
    exact hz
  have new : ∀ k z, ρ k = z → z.1 ≠ 0 → (fun k => if (ρ k).1 ≠ 0 then ρ k else σ k) k = z := fun k z hz h0 => by
    have : (ρ k).1 ≠ 0 := by rw [hz]; exact h0
    simp only [this, ne_eq, not_false_eq_true, if_true]
    exact hz
  refine ⟨fun k => if (ρ k).1 ≠ 0 then ρ k else σ k, ⟨ownsRow_keep h.on (fun k e => (old k _ (h.rn k e) (by simp)).1), ownsRow_keep h.ox (fun k e => (old k _ (h.rx k e) (by simp)).1), fun k e => (old k _ (h.rn k e) (by simp)).2, fun k e => (old k _ (h.rx k e) (by simp)).2, ?_, ?_, by simp; omega⟩, ?_⟩
  · intro q r hr
    rcases Nat.lt_or_ge q R.length with hq | hq
    · rw [List.getElem?_append_left hq] at hr
      exact (h.rep q r hr).to (fun k z hz h0 _ _ => old k z hz h0) (by omega)
    · rw [List.getElem?_append_right hq] at hr
      have : q = R.length := by
        rcases Nat.eq_or_lt_of_le hq with e | e
        · exact e.symm
        · rw [List.getElem?_eq_none (by simp; omega)] at hr; cases hr
      subst this
      simp at hr
      subst hr
      exact ⟨ownsRow_base hc.ol (fun _ _ => Nat.zero_le _), ownsRow_base hc.oo (fun _ _ => Nat.zero_le _), hc.len, hc.is, fun i c hi => by
        have o := hc.ok i c hi
        exact ⟨o.ch, o.chl, fun k e => new k _ (o.chr k e) (by simp), o.tm, o.tml, fun k e => new k _ (o.tmr k e) (by simp)⟩, fun k e => new k _ (hc.rl k e) (by simp), fun k e => new k _ (hc.ro k e) (by simp)⟩
  · intro k hk
    by_cases e : (ρ k).1 ≠ 0
    · have := hc.lo k e
      exact ⟨by omega, this.2⟩
    · simp only [e, if_false] at hk
      exact ⟨(h.lo k hk).1, Nat.lt_of_lt_of_le (h.lo k hk).2 hc.fr.size⟩
  · intro k hk
    by_cases e : (ρ k).1 ≠ 0
    · exact .inr (hc.lo k e).1
    · simp only [e, if_false] at hk
      exact .inl hk

theorem Rdb.pushN (h : Rdb base w σ n R nv xv ns xs) (v : Value) (g m cap : Nat) (hown : w'.ownsRow base 25 1 (.slice (some ⟨g, 0, none⟩) m cap) (ns.length + 1) (ns ++ [v])) (hg : w.grownBy w' nv.ownBlock) (hat : nv.ownBlock = some g ∨ g = w.heap.size) :
    ∃ σ', Rdb base w' σ' n R (.slice (some ⟨g, 0, none⟩) m cap) xv (ns ++ [v]) xs ∧ ∀ k, (σ' k).1 ≠ 0 → (σ k).1 ≠ 0 ∨ w.heap.size ≤ k := by
  obtain ⟨σ', e1, e2, e3⟩ := grown_role h.rn hat (fun k hk => h.free hk)
  have hglt := hown.lt g rfl
  have old : ∀ k z, σ k = z → z.1 ≠ 0 → z.1 ≠ 22 → w'.heap[k]? = w.heap[k]? ∧ σ' k = z := fun k z hz h0 hq => by
    refine ⟨hg.block k (h.lo k (by rw [hz]; exact h0)).2 (fun e => hq (by rw [← hz, h.rn k e.symm])), ?_⟩
    by_cases hk : k = g
    · subst hk; rw [e3 (by rw [hz]; exact h0), hz]
    · rw [e2 k hk, hz]
  refine ⟨σ', ⟨by rw [List.length_append]; exact hown, ownsRow_keep h.ox (fun k e => (old k _ (h.rx k e) (by simp) (by simp)).1), ?_, fun k e => (old k _ (h.rx k e) (by simp) (by simp)).2, fun q r hr => (h.rep q r hr).to (fun k z hz h0 h22 _ => old k z hz h0 h22) ?_, ?_, h.le⟩, ?_⟩
  · intro k hk
    have : k = g := by simpa [Value.ownBlock] using hk.symm
    subst this
    exact e1
  · have := (List.getElem?_eq_some_iff.1 hr).1
    have := h.le
    omega
  · intro k hk
    by_cases hkg : k = g
    · subst hkg; exact hglt
    · rw [e2 k hkg] at hk
      exact ⟨(h.lo k hk).1, Nat.lt_of_lt_of_le (h.lo k hk).2 hg.size⟩
  · intro k hk
    by_cases hkg : k = g
    · subst hkg
      rcases hat with q | q
      · exact .inl (by rw [h.rn _ q]; simp)
      · exact .inr (by omega)
    · rw [e2 k hkg] at hk
      exact .inl hk
theorem Rdb.pushX (h : Rdb base w σ n R nv xv ns xs) (v : Value) (g m cap : Nat) (hown : w'.ownsRow base 112 1 (.slice (some ⟨g, 0, none⟩) m cap) (xs.length + 1) (xs ++ [v])) (hg : w.grownBy w' xv.ownBlock) (hat : xv.ownBlock = some g ∨ g = w.heap.size) :
    ∃ σ', Rdb base w' σ' n R nv (.slice (some ⟨g, 0, none⟩) m cap) ns (xs ++ [v]) ∧ ∀ k, (σ' k).1 ≠ 0 → (σ k).1 ≠ 0 ∨ w.heap.size ≤ k := by
  obtain ⟨σ', e1, e2, e3⟩ := grown_role h.rx hat (fun k hk => h.free hk)
  have hglt := hown.lt g rfl
  have old : ∀ k z, σ k = z → z.1 ≠ 0 → z.1 ≠ 23 → w'.heap[k]? = w.heap[k]? ∧ σ' k = z := fun k z hz h0 hq => by
    refine ⟨hg.block k (h.lo k (by rw [hz]; exact h0)).2 (fun e => hq (by rw [← hz, h.rx k e.symm])), ?_⟩
    by_cases hk : k = g
    · subst hk; rw [e3 (by rw [hz]; exact h0), hz]
    · rw [e2 k hk, hz]
  refine ⟨σ', ⟨ownsRow_keep h.on (fun k e => (old k _ (h.rn k e) (by simp) (by simp)).1), by rw [List.length_append]; exact hown, fun k e => (old k _ (h.rn k e) (by simp) (by simp)).2, ?_, fun q r hr => (h.rep q r hr).to (fun k z hz h0 _ h23 => old k z hz h0 h23) ?_, ?_, h.le⟩, ?_⟩
  · intro k hk
    have : k = g := by simpa [Value.ownBlock] using hk.symm
    subst this
    exact e1
  · have := (List.getElem?_eq_some_iff.1 hr).1
    have := h.le
    omega
  · intro k hk
    by_cases hkg : k = g
    · subst hkg; exact hglt
    · rw [e2 k hkg] at hk
      exact ⟨(h.lo k hk).1, Nat.lt_of_lt_of_le (h.lo k hk).2 hg.size⟩
  · intro k hk
    by_cases hkg : k = g
    · subst hkg
      rcases hat with q | q
      · exact .inl (by rw [h.rx _ q]; simp)
      · exact .inr (by omega)
    · rw [e2 k hkg] at hk
      exact .inl hk
end

end Go.Proofs.YtaelaldmibgibaaGreatDoor

namespace Go.Proofs.YtaelaldmibgibaaGreatDoor
open Go.RowKit

/-- the new spot is in, what comes behind it is not yet -/
structure Half (W w : World) (n at_ : Nat) (c : List Int) (l : List SP) (v : Value) : Prop where
  below : Below W.heap.size W w
  own : ∃ fr, FrOk W w n c v fr ∧ w.ownsRow W.heap.size 117 6 v (at_ + 1) (spv (l.take at_ ++ [fr]))

theorem Gather.put {W w wf w1 : World} {n at_ : Nat} {c : List Int} {l : List SP} {v : Value} (h : Gather W w n at_ c l at_ v) (hb : Below w.heap.size w wf) (fr : SP) (hfr : Fresh n c fr)
    (hch : wf.ownsRow w.heap.size 3 1 fr.chv n (ivs (List.replicate n 0))) (htm : wf.ownsRow w.heap.size 3 1 fr.tmv c.length (ivs c)) (hne : ∀ k, fr.chv.ownBlock = some k → fr.tmv.ownBlock ≠ some k)
    (o : Obj) (g cap : Nat) (ho : w1.ownsRow W.heap.size 117 6 (.slice (some ⟨g, 0, none⟩) (at_ + 1) cap) (at_ + 1) (spv (l.take at_) ++ fr.cells))
    (hg : (wf.alloc o).grownBy w1 v.ownBlock) (hat : v.ownBlock = some g ∨ g = (wf.alloc o).heap.size) : Half W w1 n at_ c l (.slice (some ⟨g, 0, none⟩) (at_ + 1) cap) := by
  have hown := h.low (Nat.le_refl _)
  have hlt := World.ownsRow.lt hown
  have hWw := h.below.size
  have hblf : Below W.heap.size W wf := h.below.trans (hb.mono hWw)
  have F : FrOk W wf n c v fr := by
    refine ⟨hfr, ownsRow_base hch (fun k hk => Nat.le_trans hWw (World.ownsRow.lt hch k hk).1), ownsRow_base htm (fun k hk => Nat.le_trans hWw (World.ownsRow.lt htm k hk).1), hne, ?_, ?_⟩
    · intro k hk e
      have a1 := (hlt k e).2
      have a2 := (World.ownsRow.lt hch k hk).1
      omega
    · intro k hk e
      have a1 := (hlt k e).2
      have a2 := (World.ownsRow.lt htm k hk).1
      omega
  refine ⟨grown_below (hblf.alloc hblf.size o) hg (fun q hq => (hlt q hq).1), fr, (F.alloc o).grown hg hat, ?_⟩
  rw [spv_append, spv_one]
  exact ho

theorem Half.next {W w w1 : World} {n at_ : Nat} {c : List Int} {l : List SP} {v : Value} (hb : Below W.heap.size W w) (fr : SP) (hf : FrOk W w n c v fr) (hown : w.ownsRow W.heap.size 117 6 v (at_ + 1) (spv (l.take at_ ++ [fr]))) (s : SP) (hs : l[at_]? = some s) (o : Obj) (g cap : Nat)
    (ho : w1.ownsRow W.heap.size 117 6 (.slice (some ⟨g, 0, none⟩) (at_ + 1 + 1) cap) (at_ + 1 + 1) (spv (l.take at_ ++ [fr]) ++ s.cells))
    (hg : (w.alloc o).grownBy w1 v.ownBlock) (hat : v.ownBlock = some g ∨ g = (w.alloc o).heap.size) : Gather W w1 n at_ c l (at_ + 1) (.slice (some ⟨g, 0, none⟩) (at_ + 1 + 1) cap) := by
  refine ⟨grown_below (hb.alloc hb.size o) hg (fun q hq => (World.ownsRow.lt hown q hq).1), fun q => by omega, fun _ => ⟨fr, (hf.alloc o).grown hg hat, ?_⟩⟩
  rw [ins_at at_ fr l s hs, spv_append, spv_one]
  have e : ins at_ fr l at_ = l.take at_ := by unfold ins; rw [if_pos (Nat.le_refl _)]
  rw [e]
  exact ho

/-- a row is whole: the new spot at its place -/
structure Whole (W w : World) (n at_ : Nat) (c : List Int) (l : List SP) (v : Value) : Prop where
  below : Below W.heap.size W w
  own : ∃ fr, FrOk W w n c v fr ∧ w.ownsRow W.heap.size 117 6 v (l.length + 1) (spv (l.take at_ ++ fr :: l.drop at_))
theorem Gather.whole {W w : World} {n at_ : Nat} {c : List Int} {l : List SP} {v : Value} (h : Gather W w n at_ c l l.length v) (hlt : at_ < l.length) : Whole W w n at_ c l v := by
  obtain ⟨fr, hf, ho⟩ := h.high hlt
  rw [ins_end at_ fr l hlt] at ho
  exact ⟨h.below, fr, hf, ho⟩
theorem Half.whole {W w : World} {n at_ : Nat} {c : List Int} {l : List SP} {v : Value} (h : Half W w n at_ c l v) (he : at_ = l.length) : Whole W w n at_ c l v := by
  obtain ⟨fr, hf, ho⟩ := h.own
  subst he
  refine ⟨h.below, fr, hf, ?_⟩
  rw [List.drop_length]
  exact ho

/-- the row is put in its place -/
theorem Whole.store {W w : World} {b : Nat} {ρ : Nat → Nat × Nat} {S : RS} {at_ r : Nat} {c : List Int} {l : List SP} {v ov cw : Value} (h : Whole W w S.n at_ c l v) (hR : RefRep W b ρ S) (hx : S.rows[r]? = some (ov, l)) (hc : S.coms[r]? = some (cw, c)) (sg sc : Nat)
    (es : S.sv = .slice (some ⟨sg, 0, none⟩) S.n sc) (hrn : r < S.n) :
    ∃ ρ' fr, RefRep (w.setCell ⟨sg, r, none⟩ v) b ρ' { S with rows := S.rows.set r (v, l.take at_ ++ fr :: l.drop at_) } ∧ Grow W ρ ρ' ∧ Fresh S.n c fr ∧ (∃ g cap, v = .slice (some ⟨g, 0, none⟩) (l.length + 1) cap) := by
  obtain ⟨fr, hf, ho⟩ := h.own
  have hn := hR.n1
  obtain ⟨gv, cv, rfl, hgv, hgvl⟩ := World.ownsRow.form ho (by omega)
  obtain ⟨gc, cc, ec, hgc, hgcl⟩ := World.ownsRow.form hf.ch (by omega)
  have hcl : c.length = S.n := (hR.com r _ hc).2.1
  obtain ⟨gt, ct, et, hgt, hgtl⟩ := World.ownsRow.form hf.tm (by omega)
  have hR1 : RefRep w b ρ S := hR.below h.below
  have n1 : gv ≠ gc := by intro e; subst e; exact hf.vch gv (by rw [ec]; rfl) rfl
  have n2 : gv ≠ gt := by intro e; subst e; exact hf.vtm gv (by rw [et]; rfl) rfl
  have n3 : gc ≠ gt := by intro e; subst e; exact hf.ne gc (by rw [ec]; rfl) (by rw [et]; rfl)
  have f1 : (ρ gv).1 = 0 := hR.free hgv
  have f2 : (ρ gc).1 = 0 := hR.free hgc
  have f3 : (ρ gt).1 = 0 := hR.free hgt
  have R1 := hR1.upd (5, r) f1 hgvl
  have R2 := R1.upd (k := gc) (6, 0) (by unfold upd; rw [if_neg (Ne.symm n1)]; exact f2) hgcl
  have R3 := R2.upd (k := gt) (7, r) (by unfold upd; rw [if_neg (Ne.symm n3), if_neg (Ne.symm n2)]; exact f3) hgtl
  have r1 : role (upd (upd (upd ρ gv (5, r)) gc (6, 0)) gt (7, r)) (.slice (some ⟨gv, 0, none⟩) (l.length + 1) cv) (5, r) := by
    intro k hk; simp [Value.ownBlock] at hk; subst hk
    unfold upd; rw [if_neg n2, if_neg n1, if_pos rfl]
  have r2 : role (upd (upd (upd ρ gv (5, r)) gc (6, 0)) gt (7, r)) fr.chv (6, 0) := by
    intro k hk; rw [ec] at hk; simp [Value.ownBlock] at hk; subst hk
    unfold upd; rw [if_neg n3, if_pos rfl]
  have r3 : role (upd (upd (upd ρ gv (5, r)) gc (6, 0)) gt (7, r)) fr.tmv (7, r) := by
    intro k hk; rw [et] at hk; simp [Value.ownBlock] at hk; subst hk
    unfold upd; rw [if_pos rfl]
  refine ⟨_, fr, R3.setRow sg sc r es hrn _ _ ?_ r1 ?_, (((Grow.refl W ρ).upd hgv _).upd hgc _).upd hgt _, hf.fresh, gv, cv, rfl⟩
  · have e : (l.take at_ ++ fr :: l.drop at_).length = l.length + 1 := by
      simp only [List.length_append, List.length_cons, List.length_take, List.length_drop]; omega
    rw [e]
    exact ownsRow_base ho (fun _ _ => Nat.zero_le _)
  · intro t ht
    have ht' : t ∈ l ∨ t = fr := by
      simp only [List.mem_append, List.mem_cons] at ht
      rcases ht with ht | ht | ht
      · exact .inl (List.mem_of_mem_take ht)
      · exact .inr ht
      · exact .inl (List.mem_of_mem_drop ht)
    rcases ht' with ht' | rfl
    · exact R3.sp r _ hx t ht'
    · refine ⟨?_, ?_, r2, ?_, ?_, r3⟩
      · unfold intRow
        rw [hf.fresh.ch, List.length_replicate]
        exact ownsRow_base hf.ch (fun _ _ => Nat.zero_le _)
      · rw [hf.fresh.ch, List.length_replicate]
      · unfold intRow
        rw [hf.fresh.tm]
        exact ownsRow_base hf.tm (fun _ _ => Nat.zero_le _)
      · rw [hf.fresh.tm]; exact hcl

/-- how far the rows have come: those below r have the new spot -/
structure Rowed (S Sr : RS) (at_ : Nat) (ps : List ByteArray) (r : Nat) : Prop where
  n : Sr.n = S.n
  coms : Sr.coms = S.coms
  paths : Sr.paths = ps
  lo : ∀ r' v l, S.rows[r']? = some (v, l) → r' < r → ∃ v' fr cw c, Sr.rows[r']? = some (v', l.take at_ ++ fr :: l.drop at_) ∧ S.coms[r']? = some (cw, c) ∧ Fresh S.n c fr
  hi : ∀ r' x, S.rows[r']? = some x → r ≤ r' → Sr.rows[r']? = some x
theorem Rowed.next {S Sr : RS} {at_ r : Nat} {ps : List ByteArray} (h : Rowed S Sr at_ ps r) (hr : r < Sr.rows.length) (v ov : Value) (l : List SP) (hx : S.rows[r]? = some (ov, l)) (fr : SP) (cw : Value) (c : List Int) (hc : S.coms[r]? = some (cw, c)) (hf : Fresh S.n c fr) :
    Rowed S { Sr with rows := Sr.rows.set r (v, l.take at_ ++ fr :: l.drop at_) } at_ ps (r + 1) := by
  refine ⟨h.n, h.coms, h.paths, ?_, ?_⟩
  · intro r' v' l' hx' hlt
    by_cases e : r' = r
    · subst e
      rw [hx] at hx'
      simp at hx'
      obtain ⟨rfl, rfl⟩ := hx'
      exact ⟨v, fr, cw, c, by simp [hr], hc, hf⟩
    · obtain ⟨v'', fr', cw', c', h1, h2⟩ := h.lo r' v' l' hx' (by omega)
      exact ⟨v'', fr', cw', c', by rw [List.getElem?_set_ne (Ne.symm e)]; exact h1, h2⟩
  · intro r' x hx' hle
    rw [List.getElem?_set_ne (by omega)]
    exact h.hi r' x hx' (by omega)

/-- the row as it stands where it can be appended to, in a world behind -/
theorem Gather.lowf {W w wf : World} {n at_ : Nat} {c : List Int} {l : List SP} {k : Nat} {v : Value} (h : Gather W w n at_ c l k v) (hk : k ≤ at_) (hb : Below w.heap.size w wf) : wf.ownsRow W.heap.size 117 6 v k (spv (l.take k)) :=
  ownsRow_keep (h.low hk) (fun q hq => hb.block q (World.ownsRow.lt (h.low hk) q hq).2)

/-- fresh, its two lists written out -/
theorem fresh_form (b r : Nat) (ρ : Nat → Nat × Nat) (S : RS) (w : World) (h : RefRep w b ρ S) (hr : r < S.n) (cw : Value) (c : List Int) (hc : S.coms[r]? = some (cw, c)) :
    Calls Tryz.prog 102 #[.pointer (some ⟨b, 0, none⟩), .int .i64 r] w fun e w' => ∃ gc cc gt ct,
      e = .returned (.agg #[.bool false, .string ⟨#[]⟩, .int .i64 0, .int .i64 0, .slice (some ⟨gc, 0, none⟩) S.n cc, .slice (some ⟨gt, 0, none⟩) S.n ct]) ∧ Hid (w'.ownsRow w.heap.size 3 1 (.slice (some ⟨gc, 0, none⟩) S.n cc) S.n (ivs (List.replicate S.n 0))) ∧
      Hid (w'.ownsRow w.heap.size 3 1 (.slice (some ⟨gt, 0, none⟩) S.n ct) c.length (ivs c)) ∧ gc ≠ gt ∧ Hid (Below w.heap.size w w') := by
  have hn := h.n1
  have hcl := (h.com r _ hc).2.1
  refine (fresh_any b r ρ S w h hr).mono ?_
  rintro e w' ⟨chv, tmv, l, x, hx, rfl, h1, h2, h3, h4⟩
  rw [hc] at hx
  simp at hx
  obtain ⟨rfl, rfl⟩ := hx
  obtain ⟨gc, cc, rfl, _⟩ := World.ownsRow.form h1 (by omega)
  simp only at hcl
  obtain ⟨gt, ct, rfl, _⟩ := World.ownsRow.form h2 (by omega)
  rw [hcl] at h2 ⊢
  exact ⟨gc, cc, gt, ct, rfl, h1, h2, fun e => h3 gc rfl (by rw [e]; rfl), h4⟩

end Go.Proofs.YtaelaldmibgibaaGreatDoor
