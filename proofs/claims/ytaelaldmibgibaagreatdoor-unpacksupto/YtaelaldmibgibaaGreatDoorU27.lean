/- The document's text: a time. The document's text: a path. The document's text: may a record that is told be so? The document's text: does a record's line follow? The document's text: its sum. The document's text: a number, written. -/
import Derived.Test.YtaelaldmibgibaaGreatDoorU26
import Derived.Test.YtaelaldmibgibaaGreatDoorU25
import Derived.Test.YtaelaldmibgibaaGreatDoorU11

set_option linter.unusedVariables false
set_option linter.unusedSimpArgs false

namespace Go.Proofs.YtaelaldmibgibaaGreatDoor
open Go.RowKit

/-- where a reader stands, and whether the text is not as it must be -/
def wantS (s p : ByteArray) (x : Nat × Bool) : Nat × Bool := (passed s x.1 x.2 p, !hasAt s x.1 x.2 p)
def numS (s : ByteArray) (x : Nat × Bool) : Nat × Bool := (numAt s x.1, x.2 || numNo s x.1)
def comma : ByteArray := ⟨#[44]⟩
def timeStep (s : ByteArray) (i : Nat) (x : Nat × Bool) : Nat × Bool := if i = 0 then x else wantS s comma x
/-- so many numbers: where the reader stands behind them, what they are -/
def timeS (s : ByteArray) : Nat → Nat × Bool → (Nat × Bool) × List Int
  | 0, x => (x, [])
  | i + 1, x => (numS s (timeStep s i (timeS s i x).1), (timeS s i x).2 ++ [(numVal s (timeStep s i (timeS s i x).1).1 : Int)])

/-- a row that is one's own, and a reader -/
structure Tm (w wr : World) (b : Nat) (s : ByteArray) (x : Nat × Bool) (v : Value) (l : List Int) : Prop where
  own : wr.ownsRow w.heap.size 3 1 v l.length (ivs l)
  rd : Rd wr b s x.1 x.2
  fr : Fr (fun k => k = b) w wr
theorem Tm.onRd {w wr w' : World} {b : Nat} {s : ByteArray} {x y : Nat × Bool} {v : Value} {l : List Int} (h : Tm w wr b s x v l) (hb : b < w.heap.size) (hr : Rd w' b s y.1 y.2) (hf : Fr (fun k => k = b) wr w') : Tm w w' b s y v l :=
  ⟨ownsRow_keep h.own (fun k hk => by have := h.own.lt k hk; exact hf.block k this.2 (by omega)), hr, h.fr.trans hf⟩
theorem Tm.want {w wr : World} {b : Nat} {s : ByteArray} {x : Nat × Bool} {v : Value} {l : List Int} (h : Tm w wr b s x v l) (hb : b < w.heap.size) (p : ByteArray) (hp : p.size ≤ 1000) :
    Calls Tryz.prog 50 #[.pointer (some ⟨b, 0, none⟩), .string p] wr fun e w' => e = .returned (.tuple #[]) ∧ Tm w w' b s (wantS s p x) v l := by
  refine (want_any b s x.1 x.2 p hp wr h.rd).mono ?_
  rintro e w' ⟨rfl, hr, hf⟩
  exact ⟨rfl, h.onRd hb hr hf⟩
theorem Tm.num {w wr : World} {b : Nat} {s : ByteArray} {x : Nat × Bool} {v : Value} {l : List Int} (h : Tm w wr b s x v l) (hb : b < w.heap.size) :
    Calls Tryz.prog 51 #[.pointer (some ⟨b, 0, none⟩)] wr fun e w' => e = .returned (.int .i64 (numVal s x.1)) ∧ Tm w w' b s (numS s x) v l := by
  refine (number_any b s x.1 x.2 wr h.rd).mono ?_
  rintro e w' ⟨rfl, hr, hf⟩
  exact ⟨rfl, h.onRd hb hr hf⟩
theorem Tm.app {w w2 w3 : World} {b : Nat} {s : ByteArray} {x : Nat × Bool} {v v' : Value} {l : List Int} (h : Tm w w2 b s x v l) (hb : b < w.heap.size) (o : Obj) (N : Int) (hown : w3.ownsRow w.heap.size 3 1 v' (l.length + 1) (ivs l ++ [.int .i64 N])) (hg : (w2.alloc o).grownBy w3 v.ownBlock) : Tm w w3 b s x v' (l ++ [N]) := by
  have hz := h.fr.size
  refine ⟨?_, h.rd.keep ?_, (h.fr.alloc o).grown hg (fun q hq => .inr (h.own.lt q hq).1)⟩
  · rw [List.length_append, ivs_append]
    exact hown
  · rw [hg.block b (by simp; omega) (fun e => by have := h.own.lt b e.symm; omega)]
    exact Below.heap_alloc _ _ _ (by omega)
theorem timeS_len (s : ByteArray) (n : Nat) (x : Nat × Bool) : (timeS s n x).2.length = n := by
  induction n with
  | zero => rfl
  | succ n ih => simp [timeS, ih]

set_option maxRecDepth 100000 in
set_option maxHeartbeats 1000000 in
theorem time_any (b : Nat) (s : ByteArray) (x : Nat × Bool) (n : Nat) (hn : n ≤ 6) (w : World) (h : Rd w b s x.1 x.2) :
    Calls Tryz.prog 52 #[.pointer (some ⟨b, 0, none⟩), .int .i64 n] w fun e w' => ∃ v, e = .returned v ∧ Tm w w' b s (timeS s n x).1 v (timeS s n x).2 := by
  obtain ⟨i0, hi, hz0, hz1, hz2⟩ := info_parts info_int
  have hlt := h.lt
  have S0 : Hid (Tm w w b s (timeS s 0 x).1 (.slice none 0 0) (timeS s 0 x).2) := ⟨World.ownsRow_nil _ _ _ _, h, Fr.refl _ _⟩
  clear h
  go_enter Tryz.func52, Tryz.ntmps52
  go_wp2
  go_loopw [5, 6] (fun v i wr => ∃ k : Nat, k ≤ n ∧ i = .int .i64 k ∧ Hid (Tm w wr b s (timeS s k x).1 v (timeS s k x).2)) (fun _ i _ => n - (intOf i).toNat)
  case atStart => exact ⟨0, Nat.zero_le _, rfl, S0⟩
  case round =>
    obtain ⟨k, hk, rfl, hT⟩ := hrel
    by_cases hkn : k < n
    · have hl := timeS_len s k x
      have NX : Hid (∀ w' v', Tm w w' b s (numS s (timeStep s k (timeS s k x).1)) v' ((timeS s k x).2 ++ [(numVal s (timeStep s k (timeS s k x).1).1 : Int)]) → Tm w w' b s (timeS s (k + 1) x).1 v' (timeS s (k + 1) x).2) := fun _ _ q => q
      have T0 : Hid (k = 0 → timeStep s k (timeS s k x).1 = (timeS s k x).1) := fun e => by unfold timeStep; rw [if_pos e]
      have T1 : Hid (k ≠ 0 → timeStep s k (timeS s k x).1 = wantS s comma (timeS s k x).1) := fun e => by unfold timeStep; rw [if_neg e]
      generalize timeStep s k (timeS s k x).1 = y at NX T0 T1
      generalize (timeS s k x).1 = x1 at hT NX T0 T1
      generalize (timeS s k x).2 = l at hT NX hl
      have HL := hide hl
      clear hl S0
      by_cases hz : k = 0
      · have e := T0.out hz
        subst e
        have hd : decide ((0 : Int) < (k : Int)) = false := by simp; omega
        have hd' : decide (0 < k) = false := by simp; omega
        clear T0 T1
        generalize hN : (numVal s y.1 : Int) = N at NX
        have HN := hide hN
        clear hN
        go_wp2_with (first
          | (go_at_call 51; refine (hT.out.num hlt).mono ?_; rintro e w2 ⟨rfl, h2⟩; rw [HN.out]; have H2 := hide h2; have hown := h2.own; clear h2)
          | (at_builtin; refine wpList_append_own _ rfl _ _ 58 rfl w.heap.size 3 i0 (.int .i64 0) 1 8 Tryz.underlying58 hi hz0 hz1 hz2 rfl (by decide) _ _ _ rfl (hown.alloc _) ⟨w2.heap.size, 0, none⟩ 1 1 [.int .i64 N] rfl rfl ?c1 ?c2 ?c3 ?c4 ?c5 ?_))
        case c1 =>
          intro j u hj
          match j, hj with
          | 0, hj => simp at hj; subst hj; simp [Addr.add]
        case c2 => intro u hu; simp at hu; subst hu; rfl
        case c3 => have q : l.length = k := HL.out; unfold maxLen; omega
        case c4 => have q : l.length = k := HL.out; omega
        case c5 => have := H2.out.fr.size; simp; omega
        intro v' w3 hown' hgrow _
        have T3 := hide (NX.out _ _ (H2.out.app hlt _ N hown' hgrow))
        clear hgrow hown hown'
        go_wp2
        go_roundw
        case rel => exact ⟨k + 1, by omega, by go_num, T3⟩
        case measure => simp [intOf]; omega
      · have e := T1.out hz
        subst e
        have hd : decide ((0 : Int) < (k : Int)) = true := by simp; omega
        have hd' : decide (0 < k) = true := by simp; omega
        clear T0 T1
        generalize hN : (numVal s (wantS s comma x1).1 : Int) = N at NX
        have HN := hide hN
        clear hN
        go_wp2_with (first
          | (go_at_call 50; refine (hT.out.want hlt comma (by decide)).mono ?_; rintro e w1 ⟨rfl, h1⟩; have H1 := hide h1; clear h1)
          | (go_at_call 51; refine (H1.out.num hlt).mono ?_; rintro e w2 ⟨rfl, h2⟩; rw [HN.out]; have H2 := hide h2; have hown := h2.own; clear h2)
          | (at_builtin; refine wpList_append_own _ rfl _ _ 58 rfl w.heap.size 3 i0 (.int .i64 0) 1 8 Tryz.underlying58 hi hz0 hz1 hz2 rfl (by decide) _ _ _ rfl (hown.alloc _) ⟨w2.heap.size, 0, none⟩ 1 1 [.int .i64 N] rfl rfl ?c1 ?c2 ?c3 ?c4 ?c5 ?_))
        case c1 =>
          intro j u hj
          match j, hj with
          | 0, hj => simp at hj; subst hj; simp [Addr.add]
        case c2 => intro u hu; simp at hu; subst hu; rfl
        case c3 => have q : l.length = k := HL.out; unfold maxLen; omega
        case c4 => have q : l.length = k := HL.out; omega
        case c5 => have := H2.out.fr.size; simp; omega
        intro v' w3 hown' hgrow _
        have T3 := hide (NX.out _ _ (H2.out.app hlt _ N hown' hgrow))
        clear hgrow hown hown'
        go_wp2
        go_roundw
        case rel => exact ⟨k + 1, by omega, by go_num, T3⟩
        case measure => simp [intOf]; omega
    · have e : k = n := by omega
      subst e
      go_wp2
      go_ret
      exact ⟨_, rfl, hT.out⟩

end Go.Proofs.YtaelaldmibgibaaGreatDoor

namespace Go.Proofs.YtaelaldmibgibaaGreatDoor
open Go.RowKit

/-- up to the next space, at most so many bytes -/
def wordRun (s : ByteArray) : Nat → Nat → Nat
  | 0, m => m
  | f + 1, m => if h : m < s.size then (if s[m].toNat ≠ 32 then wordRun s f (m + 1) else m) else m
theorem wordRun_go (s : ByteArray) (f m : Nat) (h : m < s.size) (hd : s[m].toNat ≠ 32) : wordRun s (f + 1) m = wordRun s f (m + 1) := by
  rw [wordRun, dif_pos h, if_pos hd]
theorem wordRun_end (s : ByteArray) (f m : Nat) (h : m < s.size → f ≠ 0 → (s.data.getD m 0).toNat = 32) : wordRun s f m = m := by
  cases f with
  | zero => rfl
  | succ f =>
    rw [wordRun]
    split
    · next hm =>
      have e : s.data.getD m 0 = s[m] := (Array.getElem_eq_getD (h := hm) 0).symm
      have := h hm (by omega)
      rw [e] at this
      rw [if_neg (by simp [this])]
    · rfl
def pathAt (s : ByteArray) (a : Nat) : Nat := wordRun s 13 a
def pathText (s : ByteArray) (a : Nat) : ByteArray := s.extract a (pathAt s a)

set_option maxRecDepth 100000 in
set_option maxHeartbeats 4000000 in
theorem path_any (b : Nat) (s : ByteArray) (a : Nat) (no : Bool) (w : World) (h : Rd w b s a no) :
    Calls Tryz.prog 100 #[.pointer (some ⟨b, 0, none⟩)] w fun e w' => e = .returned (.string (pathText s a)) ∧ Rd w' b s (pathAt s a) (no || !pathOk (pathText s a)) ∧ Fr (fun k => k = b) w w' := by
  have c1 := h.c1
  have H := hide h
  have hs := h.hs
  have ha := h.ha
  clear h
  go_enter Tryz.func100, Tryz.ntmps100
  go_wp2
  clear c1
  go_loopw [] (fun wr => ∃ m : Nat, a ≤ m ∧ m ≤ a + 13 ∧ Hid (Rd wr b s m no) ∧ Hid (Fr (fun k => k = b) w wr) ∧ Hid (wordRun s 13 a = wordRun s (13 - (m - a)) m)) (fun wr => a + 13 - (intOf (cv wr b 1)).toNat)
  case atStart => exact ⟨a, by omega, by omega, H, Fr.refl _ _, by unfold Hid; simp⟩
  case round =>
    obtain ⟨m, h1, h2, hR, hF, hE⟩ := hrel
    have c0 := hR.out.c0
    have c1 := hR.out.c1
    have c2 := hR.out.c2
    have f1 := hR.out.fz 1
    have f2 := hR.out.fz 2
    have hm := hR.out.ha
    have hcv : cv wr b 1 = .int .i64 m := by simp [cv, c1]
    clear H
    by_cases hgo : ∃ hx : m < s.size, s[m].toNat ≠ 32 ∧ m - a < 13
    · obtain ⟨hx, g1, g3⟩ := hgo
      have d2 : ((s[m].toNat : Int) != 32) = true := by simp; omega
      have d4 : decide ((m : Int) - (a : Int) ≤ 12) = true := by simp; omega
      have E' : Hid (wordRun s 13 a = wordRun s (13 - (m + 1 - a)) (m + 1)) := by
        refine hE.out.trans ?_
        rw [show 13 - (m - a) = (13 - (m + 1 - a)) + 1 by omega]
        exact wordRun_go s _ m hx g1
      have R' : Hid (∀ q, Rd ((wr.drewN q).setCell ⟨b, 1, none⟩ (.int .i64 ((m : Int) + 1))) b s (m + 1) no) := fun q => by
        have := (hR.out.keep (w' := wr.drewN q) rfl).setAt (m + 1) (by omega)
        rwa [Int.natCast_add] at this
      have F' : Hid (∀ q, Fr (fun k => k = b) w ((wr.drewN q).setCell ⟨b, 1, none⟩ (.int .i64 ((m : Int) + 1)))) := fun q => (hF.out.drewN q).setCell (.inl rfl) _
      have M' : Hid (∀ q, cv ((wr.drewN q).setCell ⟨b, 1, none⟩ (.int .i64 ((m : Int) + 1))) b 1 = .int .i64 ((m + 1 : Nat) : Int)) := fun q => by simp only [cv, (R'.out q).c1, Option.getD_some]
      clear hE hR hF
      go_wp2_with fail
      go_quiet (fail)
      go_wp2
      go_roundw
      case rel => exact ⟨m + 1, by omega, by omega, R'.out _, F'.out _, E'⟩
      case measure => rw [M'.out, hcv]; simp [intOf]; omega
    · have E : Hid (wordRun s 13 a = m) := by
        refine hE.out.trans (wordRun_end s _ m fun hx hf => ?_)
        have e : s.data.getD m 0 = s[m] := (Array.getElem_eq_getD (h := hx) 0).symm
        rw [e]
        by_cases g : s[m].toNat = 32
        · exact g
        · exact absurd ⟨hx, g, by omega⟩ hgo
      have A : Hid (pathAt s a = m) := E.out
      have X : Hid (s.extract a m = pathText s a) := by unfold Hid pathText; rw [A.out]
      have IP : Hid (∀ w, Calls Tryz.prog 156 #[.string (s.extract a m)] w fun e w' => e = .returned (.bool (pathOk (pathText s a))) ∧ w' = w) := fun w => by
        rw [X.out]
        refine IsPath_any _ w ?_
        unfold pathText maxLen
        simp only [ByteArray.size_extract]
        omega
      have how : (decide (m < s.size) = false) ∨ ∃ hx : m < s.size, decide (m < s.size) = true ∧ (((s[m].toNat : Int) != 32) = false ∨ (((s[m].toNat : Int) != 32) = true ∧ decide ((m : Int) - (a : Int) ≤ 12) = false)) := by
        by_cases hx : m < s.size
        · refine .inr ⟨hx, by simp; omega, ?_⟩
          by_cases g1 : s[m].toNat = 32
          · exact .inl (by simp; omega)
          · refine .inr ⟨by simp; omega, ?_⟩
            have : ¬ (m - a < 13) := fun g3 => hgo ⟨hx, g1, g3⟩
            simp; omega
        · exact .inl (by simp; omega)
      have HOW := hide how
      have RR : Hid (∀ q, Rd (wr.drewN q) b s m no) := fun q => hR.out.keep rfl
      have FF : Hid (∀ q, Fr (fun k => k = b) w (wr.drewN q)) := fun q => hF.out.drewN q
      clear how hgo hE hcv E hR hF
      cases ho : pathOk (pathText s a)
      all_goals
        rw [ho] at IP
        have HO := hide ho
        rcases HOW.out with x1 | ⟨hx, x1, x2 | ⟨x2, x4⟩⟩
        all_goals
          clear HOW ho
          go_wp2_with fail
          go_quiet (fail)
          go_wp2_with fail
          go_quiet (fail)
          go_wp2_with (go_at_call 156; refine (IP.out _).mono ?_; rintro e w1 ⟨rfl, rfl⟩)
          go_ret
          refine ⟨by rw [← X.out]; rfl, ?_, ?_⟩
          · rw [A.out, HO.out]
            first
              | (simp only [Bool.not_true, Bool.or_false]; exact RR.out _)
              | (simp only [Bool.not_false, Bool.or_true]; exact (RR.out _).setNo true)
          · first
              | exact FF.out _
              | exact (FF.out _).setCell (.inl rfl) _

end Go.Proofs.YtaelaldmibgibaaGreatDoor

namespace Go.Proofs.YtaelaldmibgibaaGreatDoor
open Go.RowKit
attribute [local go_sem ↓] Go.wp_at_zero Go.wp_at_succ
attribute [local go_sem ↓] stSpot
attribute [local go_sem] run_stSpot

set_option maxHeartbeats 600000 in
/-- a record is kept where a file is there, or more (or less) is known than of all -/
theorem kept_gen (b q i : Nat) (ρ : Nat → Nat × Nat) (S : RS) (w : World) (h : RefRep w b ρ S) (hq : q < S.n) (v : Value) (l : List SP) (hx : S.rows[q]? = some (v, l)) (s : SP) (hks : l[i]? = some s) (cw : Value) (c : List Int) (hcx : S.coms[q]? = some (cw, c)) :
    Calls Tryz.prog 94 #[.pointer (some ⟨b, 0, none⟩), .int .i64 q, .int .i64 i] w fun e w' => e = .returned (.bool (s.there || !decide (s.tm = c))) ∧ ∃ nq, w' = w.drewN nq := by
  obtain ⟨g, cap, gc, cc, gt, ct, rfl, _, ec, et, q0, _, _, _, _, q5⟩ := h.six q v l hx i s hks
  obtain ⟨sg, sc, v', l', es, hs, hx', _⟩ := h.theRow q hq
  rw [hx] at hx'
  simp at hx'
  obtain ⟨rfl, rfl⟩ := hx'
  obtain ⟨cg, c1, gg, c2, c', ecv, hcc, hcx', hcl, _, _, _, _, _, _⟩ := h.common q hq
  rw [hcx] at hcx'
  obtain ⟨rfl, rfl⟩ := (show cw = _ ∧ c = c' by simpa using hcx')
  have b2 := h.c2
  rw [ecv] at b2
  have b3 := h.c3
  rw [es] at b3
  have hsp := h.sp q _ hx s (List.mem_of_getElem? hks)
  have hn1 := h.n1
  have hn6 := h.n6
  have hil : i < l.length := (List.getElem?_eq_some_iff.1 hks).1
  have hml : l.length ≤ maxLen := by
    rcases (h.row q _ hx).1.2 with ⟨_, h0⟩ | ⟨_, cap', _, _, _, _, hc, hm, _⟩
    · simp only at h0; omega
    · simp only at hc; omega
  unfold maxLen at hml
  have hT := hsp.tm
  rw [et] at hT
  have hC := (h.com q _ hcx).1
  simp only at hC
  have htl := hsp.tml
  have EQ : Hid (∀ nq, Calls Tryz.prog 164 #[.slice (some ⟨gt, 0, none⟩) S.n ct, .slice (some ⟨gg, 0, none⟩) S.n c2] (w.drewN nq) fun e w' => e = .returned (.bool (decide (s.tm = c))) ∧ ∃ m, w' = (w.drewN nq).drewN m) := by
    intro nq
    have := equal_any _ _ s.tm c (w.drewN nq) (ownsRow_keep hT (fun _ _ => rfl)) (ownsRow_keep hC (fun _ _ => rfl)) (by omega) (by omega) (by omega)
    exact this
  clear hT hC hsp hcx hx es ecv h hks ec et htl hcl
  generalize S.n = n at *
  go_enter Tryz.func94, Tryz.ntmps94
  go_wp2
  go_quiet ((go_at_call 164; exact Calls.quiet_of (EQ.out _)))
  cases ht : s.there with
  | true =>
    rw [ht] at q0
    go_wp2
    go_ret
    exact ⟨ret_bool (by rw [ht]; rfl), _, rfl⟩
  | false =>
    rw [ht] at q0
    go_wp2
    go_ret
    exact ⟨ret_bool (by rw [ht]; rfl), _, rfl⟩

def zero6' : Array Value := #[.bool false, .string ⟨#[]⟩, .int .i64 0, .int .i64 0, .slice none 0 0, .slice none 0 0]
/-- may a record be so: a spot, the counts, the common time -/
def mayB (r : Nat) (C c : List Int) (s : SP) : Bool :=
  wInD s.tm C && (s.tm.getD r 0 == C.getD r 0) && (if s.there = true then decide (1 ≤ s.num) && decide (s.num ≤ s.ch.getD s.by_.toNat 0) && wInD s.ch s.tm else !decide (s.tm = c))

/-- a copy of a spot in block x, the net beside it -/
structure Mx (w w' : World) (b : Nat) (ρ : Nat → Nat × Nat) (S : RS) (s : SP) : Prop where
  bel : Below w.heap.size w w'
  net : RefRep w' b ρ S
  blk : w'.heap[w.heap.size]? = some (.cells s.cells.toArray 117 (0, 0))
theorem Mx.made {w : World} {b : Nat} {ρ : Nat → Nat × Nat} {S : RS} (h : RefRep w b ρ S) (s : SP) : Mx w ((w.alloc (.cells zero6' 117)).setCells w.heap.size 0 s.cells) b ρ S s := by
  have B : Below w.heap.size w ((w.alloc (.cells zero6' 117)).setCells w.heap.size 0 s.cells) := Below.setCells ((Below.refl _ w).alloc (Nat.le_refl _) _) (Nat.le_refl _) _ _
  refine ⟨B, h.below B, ?_⟩
  have q : (w.alloc (.cells zero6' 117)).heap[w.heap.size]? = some (.cells zero6' 117 (0, 0)) := heap_alloc_new _ _
  have st : ∀ (W : World) (o : Nat) (cs : Array Value) (v : Value), W.heap[w.heap.size]? = some (.cells cs 117 (0, 0)) → (W.setCell ⟨w.heap.size, o, none⟩ v).heap[w.heap.size]? = some (.cells (cs.setIfInBounds o v) 117 (0, 0)) := fun W o cs v hW => by
    simp only [World.setCell, Array.getElem?_modify, hW, if_true, Option.map_some]
    rfl
  simp only [World.setCells, SP.cells]
  rw [st _ 5 _ _ (st _ 4 _ _ (st _ 3 _ _ (st _ 2 _ _ (st _ 1 _ _ (st _ 0 _ _ q)))))]
  simp [zero6']
theorem Mx.on {w w1 w2 : World} {b : Nat} {ρ : Nat → Nat × Nat} {S : RS} {s : SP} (h : Mx w w1 b ρ S s) (hb : Below w1.heap.size w1 w2) : Mx w w2 b ρ S s :=
  ⟨below_step h.bel hb, h.net.below hb, by rw [hb.block _ (Array.getElem?_eq_some_iff.1 h.blk).1]; exact h.blk⟩
theorem Mx.drewN {w w1 : World} {b : Nat} {ρ : Nat → Nat × Nat} {S : RS} {s : SP} (h : Mx w w1 b ρ S s) (m : Nat) : Mx w (w1.drewN m) b ρ S s :=
  ⟨⟨h.bel.os, h.bel.tape, h.bel.output, h.bel.size, h.bel.block⟩, h.net.keep (Nat.le_refl _) (fun _ _ => rfl), h.blk⟩
theorem Mx.cells6 {w w1 : World} {b : Nat} {ρ : Nat → Nat × Nat} {S : RS} {s : SP} (h : Mx w w1 b ρ S s) : w1.cell? ⟨w.heap.size, 0, none⟩ = some (.bool s.there) ∧ w1.cell? ⟨w.heap.size, 2, none⟩ = some (.int .i64 s.by_) ∧ w1.cell? ⟨w.heap.size, 3, none⟩ = some (.int .i64 s.num) ∧ w1.cell? ⟨w.heap.size, 4, none⟩ = some s.chv ∧ w1.cell? ⟨w.heap.size, 5, none⟩ = some s.tmv := by
  refine ⟨?_, ?_, ?_, ?_, ?_⟩ <;> simp only [World.cell?, h.blk] <;> rfl

set_option maxRecDepth 100000 in
set_option maxHeartbeats 2000000 in
theorem may_any (b r i : Nat) (ρ : Nat → Nat × Nat) (S : RS) (w : World) (h : RefRep w b ρ S) (hr : r < S.n) (v : Value) (l : List SP) (hx : S.rows[r]? = some (v, l)) (s : SP) (hks : l[i]? = some s) (cw : Value) (c : List Int) (hcx : S.coms[r]? = some (cw, c)) (hby : 0 ≤ s.by_ ∧ s.by_ < S.n) :
    Calls Tryz.prog 57 #[.pointer (some ⟨b, 0, none⟩), .int .i64 r, .int .i64 i] w fun e w' => e = .returned (.bool (mayB r (cnts S S.n) c s)) ∧ Below w.heap.size w w' := by
  obtain ⟨g, cap, gc, cc, gt, ct, rfl, _, ec, et, q0, q1, q2, q3, q4, q5⟩ := h.six r v l hx i s hks
  obtain ⟨sg, sc, v', l', es, hs, hx', _⟩ := h.theRow r hr
  rw [hx] at hx'
  simp at hx'
  obtain ⟨rfl, rfl⟩ := hx'
  have b3 := h.c3
  rw [es] at b3
  have hsp := h.sp r _ hx s (List.mem_of_getElem? hks)
  have hn1 := h.n1
  have hn6 := h.n6
  have hil : i < l.length := (List.getElem?_eq_some_iff.1 hks).1
  have hml : l.length ≤ maxLen := by
    rcases (h.row r _ hx).1.2 with ⟨_, h0⟩ | ⟨_, cap', _, _, _, _, hc, hm, _⟩
    · simp only at h0; omega
    · simp only at hc; omega
  unfold maxLen at hml
  have hsz := size_Spot
  have ht1 : (w.alloc (.cells zero6' 117)).there w.heap.size 0 6 := (Mine.made' w zero6' 117 (n := 6) rfl).there
  simp only [zero6'] at ht1
  have HH := hide h
  have HK := hide hks
  have HX := hide hx
  have HCX := hide hcx
  have HSP := hide hsp
  clear h hks hx hcx hsp es
  go_enter Tryz.func57, Tryz.ntmps57
  have HM := hide (Mx.made HH.out s)
  simp only [SP.cells, zero6', ec, et] at HM
  obtain ⟨B, hB⟩ : ∃ B : Nat, s.by_ = (B : Int) := ⟨s.by_.toNat, by omega⟩
  have hBn : B < S.n := by omega
  have HB0 := hide hB
  have ltm := HSP.out.tml
  have lch := HSP.out.chl
  have HT : Hid (∀ W : World, Mx w W b ρ S s → intRow W (.slice (some ⟨gt, 0, none⟩) S.n ct) s.tm ∧ intRow W (.slice (some ⟨gc, 0, none⟩) S.n cc) s.ch) := fun W hW => by
    have q := hW.net.sp r _ HX.out s (List.mem_of_getElem? HK.out)
    rw [← ec, ← et]
    exact ⟨q.tm, q.ch⟩
  have WC : Hid (∀ (W : World) (g2 c2 : Nat), Mx w W b ρ S s → intRow W (.slice (some ⟨g2, 0, none⟩) S.n c2) (cnts S S.n) → Calls Tryz.prog 58 #[.slice (some ⟨gt, 0, none⟩) S.n ct, .slice (some ⟨g2, 0, none⟩) S.n c2] W fun e w' => e = .returned (.bool (wInD s.tm (cnts S S.n))) ∧ ∃ nq, w' = W.drewN nq) := fun W g2 c2 hW hr2 => within_any _ _ _ _ W (HT.out W hW).1 hr2 (by rw [ltm, cnts_len]) (by omega) (by omega)
  have WD : Hid (∀ (W : World), Mx w W b ρ S s → Calls Tryz.prog 58 #[.slice (some ⟨gc, 0, none⟩) S.n cc, .slice (some ⟨gt, 0, none⟩) S.n ct] W fun e w' => e = .returned (.bool (wInD s.ch s.tm)) ∧ ∃ nq, w' = W.drewN nq) := fun W hW => within_any _ _ _ _ W (HT.out W hW).2 (HT.out W hW).1 (by rw [ltm, lch]) (by omega) (by omega)
  have KG : Hid (∀ (W : World), Mx w W b ρ S s → Calls Tryz.prog 94 #[.pointer (some ⟨b, 0, none⟩), .int .i64 r, .int .i64 i] W fun e w' => e = .returned (.bool (s.there || !decide (s.tm = c))) ∧ ∃ nq, w' = W.drewN nq) := fun W hW => kept_gen b r i ρ S W hW.net hr _ l HX.out s HK.out cw c HCX.out
  have CT : Hid (∀ (W : World), Mx w W b ρ S s → W.cell? ⟨gt, r, none⟩ = some (.int .i64 (s.tm.getD r 0)) ∧ W.cell? ⟨gc, B, none⟩ = some (.int .i64 (s.ch.getD B 0))) := fun W hW => by
    obtain ⟨g', c', e', _, q', _, _⟩ := (HT.out W hW).1.form (by omega)
    obtain ⟨g'', c'', e'', _, q'', _, _⟩ := (HT.out W hW).2.form (by omega)
    simp at e' e''
    obtain ⟨rfl, _, _⟩ := e'
    obtain ⟨rfl, _, _⟩ := e''
    exact ⟨q' r (by omega), q'' B (by omega)⟩
  have C2 : Hid (∀ (W : World) (g2 c2 : Nat), intRow W (.slice (some ⟨g2, 0, none⟩) S.n c2) (cnts S S.n) → W.cell? ⟨g2, r, none⟩ = some (.int .i64 ((cnts S S.n).getD r 0))) := fun W g2 c2 hr2 => by
    obtain ⟨g', c', e', _, q', _, _⟩ := hr2.form (by rw [cnts_len]; omega)
    simp at e'
    obtain ⟨rfl, _, _⟩ := e'
    exact q' r (by rw [cnts_len]; omega)
  have hmay : Hid (mayB r (cnts S S.n) c s = (wInD s.tm (cnts S S.n) && (s.tm.getD r 0 == (cnts S S.n).getD r 0) && (if s.there = true then decide (1 ≤ s.num) && decide (s.num ≤ s.ch.getD B 0) && wInD s.ch s.tm else !decide (s.tm = c)))) := by unfold Hid mayB; rw [HB0.out, Int.toNat_natCast]
  generalize mayB r (cnts S S.n) c s = M at hmay ⊢
  clear HT HSP HX HK HCX ltm lch hby hB
  go_wp2_with fail
  go_at_call 59
  refine (counts_any b ρ S _ HM.out.net).mono ?_
  rintro e w2 ⟨v2, rfl, ho2, hb2⟩
  obtain ⟨g2, c2, rfl, _, _⟩ := World.ownsRow.form ho2 (by omega)
  have M2 := hide (HM.out.on hb2)
  have R2 : Hid (intRow w2 (.slice (some ⟨g2, 0, none⟩) S.n c2) (cnts S S.n)) := by
    unfold Hid intRow
    rw [cnts_len]
    exact ownsRow_base ho2 (fun _ _ => Nat.zero_le _)
  obtain ⟨k0, k2, k3, k4, k5⟩ := M2.out.cells6
  rw [ec] at k4
  rw [et] at k5
  rw [HB0.out] at k2
  obtain ⟨t1, t2⟩ := CT.out _ M2.out
  have t3 := C2.out _ _ _ R2.out
  clear ho2 hb2 HM ht1 b3 hs q0 q1 q2 q3 q4 q5
  go_wp2_with fail
  go_at_call 58
  refine (WC.out w2 g2 c2 M2.out R2.out).mono ?_
  rintro e w3 ⟨rfl, nq, rfl⟩
  clear WC
  dsimp only
  have MB := hide (fun m => (M2.out.drewN m).bel)
  cases hI : wInD s.tm (cnts S S.n) with
  | false =>
    go_wp2_with fail
    go_quiet (fail)
    go_wp2
    go_ret
    exact ⟨ret_bool (by rw [hmay.out, hI]; rfl), by first | exact MB.out _ | (rw [World.drewN_drewN]; exact MB.out _)⟩
  | true =>
    by_cases hxy : s.tm.getD r 0 = (cnts S S.n).getD r 0
    · rw [← hxy] at t3
      have E1 : Hid (M = if s.there = true then decide (1 ≤ s.num) && decide (s.num ≤ s.ch.getD B 0) && wInD s.ch s.tm else !decide (s.tm = c)) := by unfold Hid; rw [hmay.out, hI, hxy]; simp
      clear hmay hxy
      generalize s.tm.getD r 0 = x at *
      have d1 : (x != x) = false := by simp
      cases hth : s.there with
      | false =>
        have E2 : Hid (M = !decide (s.tm = c)) := by unfold Hid; rw [E1.out, hth]; simp
        rw [hth] at k0
        clear E1
        go_wp2_with fail
        go_quiet (fail)
        go_wp2_with (go_at_call 94; refine (KG.out _ (M2.out.drewN _)).mono ?_; rintro e w5 ⟨rfl, m, rfl⟩)
        go_ret
        exact ⟨ret_bool E2.out.symm, by first | exact MB.out _ | (rw [World.drewN_drewN]; exact MB.out _)⟩
      | true =>
        have E2 : Hid (M = (decide (1 ≤ s.num) && decide (s.num ≤ s.ch.getD B 0) && wInD s.ch s.tm)) := by unfold Hid; rw [E1.out, hth]; simp
        rw [hth] at k0
        clear E1
        go_wp2_with fail
        go_quiet (fail)
        go_wp2_with (go_at_call 58; refine (WD.out _ (M2.out.drewN _)).mono ?_; rintro e w5 ⟨rfl, m, rfl⟩)
        generalize wInD s.ch s.tm = hd at *
        cases ha1 : decide ((1 : Int) ≤ s.num) with
        | false =>
          have E3 : Hid (M = false) := by unfold Hid; rw [E2.out, ha1]; rfl
          clear E2
          go_wp2_with fail
          go_quiet (fail)
          go_wp2
          go_ret
          exact ⟨ret_bool E3.out.symm, by first | exact MB.out _ | (rw [World.drewN_drewN]; exact MB.out _)⟩
        | true =>
          cases ha2 : decide (s.num ≤ s.ch.getD B 0) with
          | false =>
            have E3 : Hid (M = false) := by unfold Hid; rw [E2.out, ha1, ha2]; rfl
            clear E2
            generalize s.ch.getD B 0 = z at *
            go_wp2_with fail
            go_quiet (fail)
            go_wp2
            go_ret
            exact ⟨ret_bool E3.out.symm, by first | exact MB.out _ | (rw [World.drewN_drewN]; exact MB.out _)⟩
          | true =>
            have E3 : Hid (M = hd) := by unfold Hid; rw [E2.out, ha1, ha2]; rfl
            clear E2
            generalize s.ch.getD B 0 = z at *
            go_wp2_with fail
            go_quiet (fail)
            go_wp2
            go_ret
            exact ⟨ret_bool E3.out.symm, by first | exact MB.out _ | (rw [World.drewN_drewN]; exact MB.out _)⟩
    · have E1 : Hid (M = false) := by unfold Hid; rw [hmay.out, hI, show (s.tm.getD r 0 == (cnts S S.n).getD r 0) = false from beq_eq_false_iff_ne.2 hxy]; rfl
      have d1 : (s.tm.getD r 0 != (cnts S S.n).getD r 0) = true := by simp only [bne_iff_ne]; exact hxy
      clear hmay hxy
      generalize s.tm.getD r 0 = x at *
      generalize (cnts S S.n).getD r 0 = y at *
      go_wp2_with fail
      go_quiet (fail)
      go_wp2
      go_ret
      exact ⟨ret_bool E1.out.symm, by first | exact MB.out _ | (rw [World.drewN_drewN]; exact MB.out _)⟩

end Go.Proofs.YtaelaldmibgibaaGreatDoor

namespace Go.Proofs.YtaelaldmibgibaaGreatDoor
open Go.RowKit

/-- how many spaces there are ahead of the line's end, in so many bytes -/
def gaps (s : ByteArray) : Nat → Nat → Nat
  | 0, _ => 0
  | f + 1, m => if h : m < s.size then (if s[m].toNat = 10 then 0 else (if s[m].toNat = 32 then 1 else 0) + gaps s f (m + 1)) else 0
theorem gaps_go (s : ByteArray) (f m : Nat) (h : m < s.size) (hd : s[m].toNat ≠ 10) : gaps s (f + 1) m = (if s[m].toNat = 32 then 1 else 0) + gaps s f (m + 1) := by
  rw [gaps, dif_pos h, if_neg hd]
theorem gaps_end (s : ByteArray) (f m : Nat) (h : m < s.size → (s.data.getD m 0).toNat = 10) : gaps s f m = 0 := by
  cases f with
  | zero => rfl
  | succ f =>
    rw [gaps]
    split
    · next hm =>
      have e : s.data.getD m 0 = s[m] := (Array.getElem_eq_getD (h := hm) 0).symm
      have := h hm
      rw [e] at this
      rw [if_pos this]
    · rfl
def lineB (s : ByteArray) (a : Nat) : Bool := decide (2 < 1 + gaps s (s.size - a) a)

set_option maxRecDepth 100000 in
set_option maxHeartbeats 2000000 in
theorem line_any (b : Nat) (s : ByteArray) (a : Nat) (no : Bool) (w : World) (h : Rd w b s a no) :
    Calls Tryz.prog 99 #[.pointer (some ⟨b, 0, none⟩)] w fun e w' => e = .returned (.bool (lineB s a)) ∧ ∃ q, w' = w.drewN q := by
  have c0 := h.c0
  have c1 := h.c1
  have hs := h.hs
  have ha := h.ha
  clear h
  go_enter Tryz.func99, Tryz.ntmps99
  go_wp2
  clear c1
  go_loopw [3, 4] (fun i v wr => ∃ m k q : Nat, a ≤ m ∧ m ≤ s.size ∧ i = .int .i64 m ∧ v = .int .i64 k ∧ Hid (k ≤ 1 + (m - a)) ∧ Hid (1 + gaps s (s.size - a) a = k + gaps s (s.size - m) m) ∧ wr = w.drewN q) (fun i _ _ => s.size - (intOf i).toNat)
  case atStart => exact ⟨a, 1, 0, by omega, ha, rfl, rfl, by unfold Hid; omega, by unfold Hid; rfl, rfl⟩
  case round =>
    obtain ⟨m, k, q, h1, h2, rfl, rfl, hk, hE, rfl⟩ := hrel
    have hk1 := hk.out
    by_cases hx : m < s.size
    · by_cases g : s[m].toNat = 10
      · have d1 : ((s[m].toNat : Int) != 10) = false := by simp; omega
        have E : Hid (lineB s a = decide ((2 : Int) < (k : Int))) := by
          have e : s.data.getD m 0 = s[m] := (Array.getElem_eq_getD (h := hx) 0).symm
          have := hE.out
          rw [gaps_end s _ m (fun _ => by rw [e]; exact g)] at this
          unfold Hid lineB
          rw [this]
          exact decide_eq_decide.2 (by omega)
        clear hE hk
        go_wp2_with fail
        try go_quiet (fail)
        go_wp2
        go_ret
        exact ⟨by rw [E.out]; simp, _, rfl⟩
      · have d1 : ((s[m].toNat : Int) != 10) = true := by simp; omega
        have st := gaps_go s (s.size - (m + 1)) m hx g
        rw [show s.size - (m + 1) + 1 = s.size - m by omega] at st
        by_cases g2 : s[m].toNat = 32
        · have d2 : ((s[m].toNat : Int) == 32) = true := by simp; omega
          rw [if_pos g2] at st
          have E : Hid (1 + gaps s (s.size - a) a = (k + 1) + gaps s (s.size - (m + 1)) (m + 1)) := by unfold Hid; rw [hE.out, st]; omega
          have K : Hid (k + 1 ≤ 1 + (m + 1 - a)) := by unfold Hid; omega
          clear hE hk st
          go_wp2
          go_roundw
          case rel => exact ⟨m + 1, k + 1, _, by omega, by omega, by go_num, by go_num, K, E, rfl⟩
          case measure => simp [intOf]; omega
        · have d2 : ((s[m].toNat : Int) == 32) = false := by simp; omega
          rw [if_neg g2] at st
          have E : Hid (1 + gaps s (s.size - a) a = k + gaps s (s.size - (m + 1)) (m + 1)) := by unfold Hid; rw [hE.out, st]; omega
          have K : Hid (k ≤ 1 + (m + 1 - a)) := by unfold Hid; omega
          clear hE hk st
          go_wp2
          go_roundw
          case rel => exact ⟨m + 1, k, _, by omega, by omega, by go_num, rfl, K, E, rfl⟩
          case measure => simp [intOf]; omega
    · have E : Hid (lineB s a = decide ((2 : Int) < (k : Int))) := by
        have := hE.out
        rw [gaps_end s _ m (fun h => absurd h hx)] at this
        unfold Hid lineB
        rw [this]
        exact decide_eq_decide.2 (by omega)
      have d1 : decide (m < s.size) = false := by simp; omega
      clear hE hk
      go_wp2
      go_ret
      exact ⟨by rw [E.out]; simp, _, rfl⟩

end Go.Proofs.YtaelaldmibgibaaGreatDoor

namespace Go.Proofs.YtaelaldmibgibaaGreatDoor
open Go.RowKit

/-- the sum of the first k bytes -/
def sumTo (s : ByteArray) : Nat → Nat
  | 0 => 0
  | k + 1 => (sumTo s k + (k + 1) * (s.data.getD k 0).toNat) % 1000003
theorem wrap64_in' (n : Int) (h : -9223372036854775808 ≤ n ∧ n ≤ 9223372036854775807) : wrap64 n = n := by unfold wrap64; omega
theorem sumTo_lt (s : ByteArray) (k : Nat) : sumTo s k < 1000003 := by
  cases k with
  | zero => show 0 < 1000003; decide
  | succ k => exact Nat.mod_lt _ (by decide)

set_option maxRecDepth 100000 in
set_option maxHeartbeats 2000000 in
theorem Sum_any (s : ByteArray) (hs : s.size ≤ 1000000000000) (w : World) :
    Calls Tryz.prog 55 #[.string s] w fun e w' => e = .returned (.int .i64 (sumTo s s.size)) ∧ ∃ q, w' = w.drewN q := by
  go_enter Tryz.func55, Tryz.ntmps55
  go_wp2
  go_loopw [3, 4] (fun v i wr => ∃ k q : Nat, k ≤ s.size ∧ i = .int .i64 k ∧ v = .int .i64 (sumTo s k) ∧ wr = w.drewN q) (fun _ i _ => s.size - (intOf i).toNat)
  case atStart => exact ⟨0, 0, by omega, rfl, rfl, rfl⟩
  case round =>
    obtain ⟨k, q, hk, rfl, rfl, rfl⟩ := hrel
    have hlt := sumTo_lt s k
    by_cases hx : k < s.size
    · have e : s.data.getD k 0 = s[k] := (Array.getElem_eq_getD (h := hx) 0).symm
      have ST : Hid (sumTo s (k + 1) = (sumTo s k + (k + 1) * s[k].toNat) % 1000003) := by unfold Hid; rw [sumTo, e]
      have hb : s[k].toNat < 256 := s[k].toNat_lt
      clear e
      generalize hS : sumTo s k = S at *
      generalize hB : s[k].toNat = B at *
      have hm : (k + 1) * B ≤ 1000000000000 * 255 := Nat.mul_le_mul (by omega) (by omega)
      have m1 : (0 : Int) ≤ ((k : Int) + 1) * (B : Int) := Int.mul_nonneg (by omega) (by omega)
      have m2 : ((k : Int) + 1) * (B : Int) ≤ 255000000000000 := by
        have : (((k + 1) * B : Nat) : Int) ≤ ((1000000000000 * 255 : Nat) : Int) := Int.ofNat_le.2 hm
        rw [Int.natCast_mul, Int.natCast_add] at this
        simpa using this
      have val : (wrap64 ((S : Int) + wrap64 (((k : Int) + 1) * wrap64 (B : Int)))).tmod 1000003 = (((S + (k + 1) * B) % 1000003 : Nat) : Int) := by
        rw [wrap64_in' (B : Int) (by omega), wrap64_in' (((k : Int) + 1) * (B : Int)) (by omega), wrap64_in' _ (by omega), Int.tmod_eq_emod_of_nonneg (by omega)]
        simp
      have HB := hide hB
      have HS := hide hS
      clear hB hS
      go_wp2
      go_roundw
      case rel => exact ⟨k + 1, _, by omega, by go_num, by rw [HB.out, ST.out, val], rfl⟩
      case measure => simp [intOf]; omega
    · have e : k = s.size := by omega
      subst e
      go_wp2
      go_ret
      exact ⟨rfl, _, rfl⟩

end Go.Proofs.YtaelaldmibgibaaGreatDoor

namespace Go.Proofs.YtaelaldmibgibaaGreatDoor
open Go.RowKit

def dig1 (n : Nat) : ByteArray := (⟨#[48, 49, 50, 51, 52, 53, 54, 55, 56, 57]⟩ : ByteArray).extract (n % 10) (n % 10 + 1)
def decF : Nat → Nat → ByteArray
  | 0, _ => .empty
  | f + 1, n => if n < 10 then dig1 n else decF f (n / 10) ++ dig1 n

theorem dig1_size (n : Nat) : (dig1 n).size = 1 := by
  have : n % 10 < 10 := Nat.mod_lt _ (by omega)
  have e : (⟨#[48, 49, 50, 51, 52, 53, 54, 55, 56, 57]⟩ : ByteArray).size = 10 := rfl
  unfold dig1
  rw [ByteArray.size_extract, e]
  omega
theorem decF_size (f : Nat) : ∀ n, (decF f n).size ≤ n + 1 := by
  induction f with
  | zero => intro n; exact Nat.zero_le _
  | succ f ih =>
    intro n
    rw [decF]
    split
    · rw [dig1_size]; omega
    · rw [ByteArray.size_append, dig1_size]
      have := ih (n / 10)
      omega

set_option maxRecDepth 100000 in
set_option maxHeartbeats 2000000 in
theorem refDecimal_any (f : Nat) : ∀ (n : Nat) (w : World), n < f → n ≤ 1000000000000 → Calls Tryz.prog 54 #[.int .i64 n] w fun e w' => e = .returned (.string (decF f n)) ∧ w' = w := by
  induction f with
  | zero => intro n w h; omega
  | succ f ih =>
    intro n w h hn
    have r1 : (n : Int).tmod 10 = ((n % 10 : Nat) : Int) := by rw [Int.tmod_eq_emod_of_nonneg (by omega)]; simp
    have r2 : (n : Int).tdiv 10 = ((n / 10 : Nat) : Int) := by rw [Int.tdiv_eq_ediv_of_nonneg (by omega)]; simp
    have hm : n % 10 < 10 := Nat.mod_lt _ (by omega)
    by_cases h10 : n < 10
    · have D : Hid (decF (f + 1) n = dig1 n) := by unfold Hid; rw [decF, if_pos h10]
      go_enter Tryz.func54, Tryz.ntmps54
      go_wp2
      go_ret
      exact ⟨by rw [D.out]; rfl, rfl⟩
    · have D : Hid (decF (f + 1) n = decF f (n / 10) ++ dig1 n) := by unfold Hid; rw [decF, if_neg h10]
      have C0 := ih (n / 10) w (by omega) (by omega)
      have e : ((n / 10 : Nat) : Int) = (n : Int) / 10 := by simp
      rw [e] at C0
      have C := hide C0
      have hd : decide ((n : Int) < 10) = false := by simp; omega
      have hz : ¬ (9223372036854775807 < (decF f (n / 10)).size + (min (n % 10 + 1) 10 - n % 10)) := by
        have := decF_size f (n / 10)
        omega
      clear ih C0 e
      go_enter Tryz.func54, Tryz.ntmps54
      go_wp2_with (go_at_call 54; refine C.out.mono ?_; rintro e w1 ⟨rfl, rfl⟩)
      go_ret
      exact ⟨by rw [D.out]; rfl, rfl⟩

end Go.Proofs.YtaelaldmibgibaaGreatDoor
