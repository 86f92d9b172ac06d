/- The document's text: a time. The document's text: a path. The document's text: does a record's line follow? The document's text: its sum. The document's text: a number, written. -/
import Derived.Test.YtaelaldmibgibaaGreatDoorU03

set_option linter.unusedVariables false
set_option linter.unusedSimpArgs false

namespace Go.Proofs.YtaelaldmibgibaaGreatDoor
open Go.RowKit

/-- where a reader stands, and whether the text is not as it must be -/
def wantS (s p : ByteArray) (x : Nat × Bool) : Nat × Bool := (passed s x.1 x.2 p, !hasAt s x.1 x.2 p)
def numS (s : ByteArray) (x : Nat × Bool) : Nat × Bool := (numAt s x.1, x.2 || numNo s x.1)
def comma : ByteArray := ⟨#[44]⟩
def timeStep (s : ByteArray) (i : Nat) (x : Nat × Bool) : Nat × Bool := if i = 0 then x else wantS s comma x
/-- so many numbers: where the reader stands behind them, what they are -/
def timeS (s : ByteArray) : Nat → Nat × Bool → (Nat × Bool) × List Int
  | 0, x => (x, [])
  | i + 1, x => (numS s (timeStep s i (timeS s i x).1), (timeS s i x).2 ++ [(numVal s (timeStep s i (timeS s i x).1).1 : Int)])

/-- a row that is one's own, and a reader -/
structure Tm (w wr : World) (b : Nat) (s : ByteArray) (x : Nat × Bool) (v : Value) (l : List Int) : Prop where
  own : wr.ownsRow w.heap.size 3 1 v l.length (ivs l)
  rd : Rd wr b s x.1 x.2
  fr : Fr (fun k => k = b) w wr
theorem Tm.onRd {w wr w' : World} {b : Nat} {s : ByteArray} {x y : Nat × Bool} {v : Value} {l : List Int} (h : Tm w wr b s x v l) (hb : b < w.heap.size) (hr : Rd w' b s y.1 y.2) (hf : Fr (fun k => k = b) wr w') : Tm w w' b s y v l :=
  ⟨ownsRow_keep h.own (fun k hk => by have := h.own.lt k hk; exact hf.block k this.2 (by omega)), hr, h.fr.trans hf⟩
theorem Tm.want {w wr : World} {b : Nat} {s : ByteArray} {x : Nat × Bool} {v : Value} {l : List Int} (h : Tm w wr b s x v l) (hb : b < w.heap.size) (p : ByteArray) (hp : p.size ≤ 1000) :
    Calls Tryz.prog 50 #[.pointer (some ⟨b, 0, none⟩), .string p] wr fun e w' => e = .returned (.tuple #[]) ∧ Tm w w' b s (wantS s p x) v l := by
  refine (want_any b s x.1 x.2 p hp wr h.rd).mono ?_
  rintro e w' ⟨rfl, hr, hf⟩
  exact ⟨rfl, h.onRd hb hr hf⟩
theorem Tm.num {w wr : World} {b : Nat} {s : ByteArray} {x : Nat × Bool} {v : Value} {l : List Int} (h : Tm w wr b s x v l) (hb : b < w.heap.size) :
    Calls Tryz.prog 51 #[.pointer (some ⟨b, 0, none⟩)] wr fun e w' => e = .returned (.int .i64 (numVal s x.1)) ∧ Tm w w' b s (numS s x) v l := by
  refine (number_any b s x.1 x.2 wr h.rd).mono ?_
  rintro e w' ⟨rfl, hr, hf⟩
  exact ⟨rfl, h.onRd hb hr hf⟩
theorem Tm.app {w w2 w3 : World} {b : Nat} {s : ByteArray} {x : Nat × Bool} {v v' : Value} {l : List Int} (h : Tm w w2 b s x v l) (hb : b < w.heap.size) (o : Obj) (N : Int) (hown : w3.ownsRow w.heap.size 3 1 v' (l.length + 1) (ivs l ++ [.int .i64 N])) (hg : (w2.alloc o).grownBy w3 v.ownBlock) : Tm w w3 b s x v' (l ++ [N]) := by
  have hz := h.fr.size
  refine ⟨?_, h.rd.keep ?_, (h.fr.alloc o).grown hg (fun q hq => .inr (h.own.lt q hq).1)⟩
  · rw [List.length_append, ivs_append]
    exact hown
  · rw [hg.block b (by simp; omega) (fun e => by have := h.own.lt b e.symm; omega)]
    exact Below.heap_alloc _ _ _ (by omega)
theorem timeS_len (s : ByteArray) (n : Nat) (x : Nat × Bool) : (timeS s n x).2.length = n := by
  induction n with
  | zero => rfl
  | succ n ih => simp [timeS, ih]

set_option maxRecDepth 100000 in
set_option maxHeartbeats 1000000 in
theorem time_any (b : Nat) (s : ByteArray) (x : Nat × Bool) (n : Nat) (hn : n ≤ 6) (w : World) (h : Rd w b s x.1 x.2) :
    Calls Tryz.prog 52 #[.pointer (some ⟨b, 0, none⟩), .int .i64 n] w fun e w' => ∃ v, e = .returned v ∧ Tm w w' b s (timeS s n x).1 v (timeS s n x).2 := by
  obtain ⟨i0, hi, hz0, hz1, hz2⟩ := info_parts info_int
  have hlt := h.lt
  have S0 : Hid (Tm w w b s (timeS s 0 x).1 (.slice none 0 0) (timeS s 0 x).2) := ⟨World.ownsRow_nil _ _ _ _, h, Fr.refl _ _⟩
  clear h
  go_enter Tryz.func52, Tryz.ntmps52
  go_wp2
  go_loopw [5, 6] (fun v i wr => ∃ k : Nat, k ≤ n ∧ i = .int .i64 k ∧ Hid (Tm w wr b s (timeS s k x).1 v (timeS s k x).2)) (fun _ i _ => n - (intOf i).toNat)
  case atStart => exact ⟨0, Nat.zero_le _, rfl, S0⟩
  case round =>
    obtain ⟨k, hk, rfl, hT⟩ := hrel
    by_cases hkn : k < n
    · have hl := timeS_len s k x
      have NX : Hid (∀ w' v', Tm w w' b s (numS s (timeStep s k (timeS s k x).1)) v' ((timeS s k x).2 ++ [(numVal s (timeStep s k (timeS s k x).1).1 : Int)]) → Tm w w' b s (timeS s (k + 1) x).1 v' (timeS s (k + 1) x).2) := fun _ _ q => q
      have T0 : Hid (k = 0 → timeStep s k (timeS s k x).1 = (timeS s k x).1) := fun e => by unfold timeStep; rw [if_pos e]
      have T1 : Hid (k ≠ 0 → timeStep s k (timeS s k x).1 = wantS s comma (timeS s k x).1) := fun e => by unfold timeStep; rw [if_neg e]
      generalize timeStep s k (timeS s k x).1 = y at NX T0 T1
      generalize (timeS s k x).1 = x1 at hT NX T0 T1
      generalize (timeS s k x).2 = l at hT NX hl
      have HL := hide hl
      clear hl S0
      by_cases hz : k = 0
      · have e := T0.out hz
        subst e
        have hd : decide ((0 : Int) < (k : Int)) = false := by simp; omega
        have hd' : decide (0 < k) = false := by simp; omega
        clear T0 T1
        generalize hN : (numVal s y.1 : Int) = N at NX
        have HN := hide hN
        clear hN
        go_wp2_with (first
          | (go_at_call 51; refine (hT.out.num hlt).mono ?_; rintro e w2 ⟨rfl, h2⟩; rw [HN.out]; have H2 := hide h2; have hown := h2.own; clear h2)
          | (at_builtin; refine wpList_append_own _ rfl _ _ 58 rfl w.heap.size 3 i0 (.int .i64 0) 1 8 Tryz.underlying58 hi hz0 hz1 hz2 rfl (by decide) _ _ _ rfl (hown.alloc _) ⟨w2.heap.size, 0, none⟩ 1 1 [.int .i64 N] rfl rfl ?c1 ?c2 ?c3 ?c4 ?c5 ?_))
        case c1 =>
          intro j u hj
          match j, hj with
          | 0, hj => simp at hj; subst hj; simp [Addr.add]
        case c2 => intro u hu; simp at hu; subst hu; rfl
        case c3 => have q : l.length = k := HL.out; unfold maxLen; omega
        case c4 => have q : l.length = k := HL.out; omega
        case c5 => have := H2.out.fr.size; simp; omega
        intro v' w3 hown' hgrow _
        have T3 := hide (NX.out _ _ (H2.out.app hlt _ N hown' hgrow))
        clear hgrow hown hown'
        go_wp2
        go_roundw
        case rel => exact ⟨k + 1, by omega, by go_num, T3⟩
        case measure => simp [intOf]; omega
      · have e := T1.out hz
        subst e
        have hd : decide ((0 : Int) < (k : Int)) = true := by simp; omega
        have hd' : decide (0 < k) = true := by simp; omega
        clear T0 T1
        generalize hN : (numVal s (wantS s comma x1).1 : Int) = N at NX
        have HN := hide hN
        clear hN
        go_wp2_with (first
          | (go_at_call 50; refine (hT.out.want hlt comma (by decide)).mono ?_; rintro e w1 ⟨rfl, h1⟩; have H1 := hide h1; clear h1)
          | (go_at_call 51; refine (H1.out.num hlt).mono ?_; rintro e w2 ⟨rfl, h2⟩; rw [HN.out]; have H2 := hide h2; have hown := h2.own; clear h2)
          | (at_builtin; refine wpList_append_own _ rfl _ _ 58 rfl w.heap.size 3 i0 (.int .i64 0) 1 8 Tryz.underlying58 hi hz0 hz1 hz2 rfl (by decide) _ _ _ rfl (hown.alloc _) ⟨w2.heap.size, 0, none⟩ 1 1 [.int .i64 N] rfl rfl ?c1 ?c2 ?c3 ?c4 ?c5 ?_))
        case c1 =>
          intro j u hj
          match j, hj with
          | 0, hj => simp at hj; subst hj; simp [Addr.add]
        case c2 => intro u hu; simp at hu; subst hu; rfl
        case c3 => have q : l.length = k := HL.out; unfold maxLen; omega
        case c4 => have q : l.length = k := HL.out; omega
        case c5 => have := H2.out.fr.size; simp; omega
        intro v' w3 hown' hgrow _
        have T3 := hide (NX.out _ _ (H2.out.app hlt _ N hown' hgrow))
        clear hgrow hown hown'
        go_wp2
        go_roundw
        case rel => exact ⟨k + 1, by omega, by go_num, T3⟩
        case measure => simp [intOf]; omega
    · have e : k = n := by omega
      subst e
      go_wp2
      go_ret
      exact ⟨_, rfl, hT.out⟩

end Go.Proofs.YtaelaldmibgibaaGreatDoor

namespace Go.Proofs.YtaelaldmibgibaaGreatDoor
open Go.RowKit

/-- up to the next space, at most so many bytes -/
def wordRun (s : ByteArray) : Nat → Nat → Nat
  | 0, m => m
  | f + 1, m => if h : m < s.size then (if s[m].toNat ≠ 32 then wordRun s f (m + 1) else m) else m
theorem wordRun_go (s : ByteArray) (f m : Nat) (h : m < s.size) (hd : s[m].toNat ≠ 32) : wordRun s (f + 1) m = wordRun s f (m + 1) := by
  rw [wordRun, dif_pos h, if_pos hd]
theorem wordRun_end (s : ByteArray) (f m : Nat) (h : m < s.size → f ≠ 0 → (s.data.getD m 0).toNat = 32) : wordRun s f m = m := by
  cases f with
  | zero => rfl
  | succ f =>
    rw [wordRun]
    split
    · next hm =>
      have e : s.data.getD m 0 = s[m] := (Array.getElem_eq_getD (h := hm) 0).symm
      have := h hm (by omega)
      rw [e] at this
      rw [if_neg (by simp [this])]
    · rfl
def pathAt (s : ByteArray) (a : Nat) : Nat := wordRun s 13 a
def pathText (s : ByteArray) (a : Nat) : ByteArray := s.extract a (pathAt s a)

set_option maxRecDepth 100000 in
set_option maxHeartbeats 4000000 in
theorem path_any (b : Nat) (s : ByteArray) (a : Nat) (no : Bool) (w : World) (h : Rd w b s a no) :
    Calls Tryz.prog 100 #[.pointer (some ⟨b, 0, none⟩)] w fun e w' => e = .returned (.string (pathText s a)) ∧ Rd w' b s (pathAt s a) (no || !pathOk (pathText s a)) ∧ Fr (fun k => k = b) w w' := by
  have c1 := h.c1
  have H := hide h
  have hs := h.hs
  have ha := h.ha
  clear h
  go_enter Tryz.func100, Tryz.ntmps100
  go_wp2
  clear c1
  go_loopw [] (fun wr => ∃ m : Nat, a ≤ m ∧ m ≤ a + 13 ∧ Hid (Rd wr b s m no) ∧ Hid (Fr (fun k => k = b) w wr) ∧ Hid (wordRun s 13 a = wordRun s (13 - (m - a)) m)) (fun wr => a + 13 - (intOf (cv wr b 1)).toNat)
  case atStart => exact ⟨a, by omega, by omega, H, Fr.refl _ _, by unfold Hid; simp⟩
  case round =>
    obtain ⟨m, h1, h2, hR, hF, hE⟩ := hrel
    have c0 := hR.out.c0
    have c1 := hR.out.c1
    have c2 := hR.out.c2
    have f1 := hR.out.fz 1
    have f2 := hR.out.fz 2
    have hm := hR.out.ha
    have hcv : cv wr b 1 = .int .i64 m := by simp [cv, c1]
    clear H
    by_cases hgo : ∃ hx : m < s.size, s[m].toNat ≠ 32 ∧ m - a < 13
    · obtain ⟨hx, g1, g3⟩ := hgo
      have d2 : ((s[m].toNat : Int) != 32) = true := by simp; omega
      have d4 : decide ((m : Int) - (a : Int) ≤ 12) = true := by simp; omega
      have E' : Hid (wordRun s 13 a = wordRun s (13 - (m + 1 - a)) (m + 1)) := by
        refine hE.out.trans ?_
        rw [show 13 - (m - a) = (13 - (m + 1 - a)) + 1 by omega]
        exact wordRun_go s _ m hx g1
      have R' : Hid (∀ q, Rd ((wr.drewN q).setCell ⟨b, 1, none⟩ (.int .i64 ((m : Int) + 1))) b s (m + 1) no) := fun q => by
        have := (hR.out.keep (w' := wr.drewN q) rfl).setAt (m + 1) (by omega)
        rwa [Int.natCast_add] at this
      have F' : Hid (∀ q, Fr (fun k => k = b) w ((wr.drewN q).setCell ⟨b, 1, none⟩ (.int .i64 ((m : Int) + 1)))) := fun q => (hF.out.drewN q).setCell (.inl rfl) _
      have M' : Hid (∀ q, cv ((wr.drewN q).setCell ⟨b, 1, none⟩ (.int .i64 ((m : Int) + 1))) b 1 = .int .i64 ((m + 1 : Nat) : Int)) := fun q => by simp only [cv, (R'.out q).c1, Option.getD_some]
      clear hE hR hF
      go_wp2_with fail
      go_quiet (fail)
      go_wp2
      go_roundw
      case rel => exact ⟨m + 1, by omega, by omega, R'.out _, F'.out _, E'⟩
      case measure => rw [M'.out, hcv]; simp [intOf]; omega
    · have E : Hid (wordRun s 13 a = m) := by
        refine hE.out.trans (wordRun_end s _ m fun hx hf => ?_)
        have e : s.data.getD m 0 = s[m] := (Array.getElem_eq_getD (h := hx) 0).symm
        rw [e]
        by_cases g : s[m].toNat = 32
        · exact g
        · exact absurd ⟨hx, g, by omega⟩ hgo
      have A : Hid (pathAt s a = m) := E.out
      have X : Hid (s.extract a m = pathText s a) := by unfold Hid pathText; rw [A.out]
      have IP : Hid (∀ w, Calls Tryz.prog 156 #[.string (s.extract a m)] w fun e w' => e = .returned (.bool (pathOk (pathText s a))) ∧ w' = w) := fun w => by
        rw [X.out]
        refine IsPath_any _ w ?_
        unfold pathText maxLen
        simp only [ByteArray.size_extract]
        omega
      have how : (decide (m < s.size) = false) ∨ ∃ hx : m < s.size, decide (m < s.size) = true ∧ (((s[m].toNat : Int) != 32) = false ∨ (((s[m].toNat : Int) != 32) = true ∧ decide ((m : Int) - (a : Int) ≤ 12) = false)) := by
        by_cases hx : m < s.size
        · refine .inr ⟨hx, by simp; omega, ?_⟩
          by_cases g1 : s[m].toNat = 32
          · exact .inl (by simp; omega)
          · refine .inr ⟨by simp; omega, ?_⟩
            have : ¬ (m - a < 13) := fun g3 => hgo ⟨hx, g1, g3⟩
            simp; omega
        · exact .inl (by simp; omega)
      have HOW := hide how
      have RR : Hid (∀ q, Rd (wr.drewN q) b s m no) := fun q => hR.out.keep rfl
      have FF : Hid (∀ q, Fr (fun k => k = b) w (wr.drewN q)) := fun q => hF.out.drewN q
      clear how hgo hE hcv E hR hF
      cases ho : pathOk (pathText s a)
      all_goals
        rw [ho] at IP
        have HO := hide ho
        rcases HOW.out with x1 | ⟨hx, x1, x2 | ⟨x2, x4⟩⟩
        all_goals
          clear HOW ho
          go_wp2_with fail
          go_quiet (fail)
          go_wp2_with fail
          go_quiet (fail)
          go_wp2_with (go_at_call 156; refine (IP.out _).mono ?_; rintro e w1 ⟨rfl, rfl⟩)
          go_ret
          refine ⟨by rw [← X.out]; rfl, ?_, ?_⟩
          · rw [A.out, HO.out]
            first
              | (simp only [Bool.not_true, Bool.or_false]; exact RR.out _)
              | (simp only [Bool.not_false, Bool.or_true]; exact (RR.out _).setNo true)
          · first
              | exact FF.out _
              | exact (FF.out _).setCell (.inl rfl) _

end Go.Proofs.YtaelaldmibgibaaGreatDoor

namespace Go.Proofs.YtaelaldmibgibaaGreatDoor
open Go.RowKit

/-- how many spaces there are ahead of the line's end, in so many bytes -/
def gaps (s : ByteArray) : Nat → Nat → Nat
  | 0, _ => 0
  | f + 1, m => if h : m < s.size then (if s[m].toNat = 10 then 0 else (if s[m].toNat = 32 then 1 else 0) + gaps s f (m + 1)) else 0
theorem gaps_go (s : ByteArray) (f m : Nat) (h : m < s.size) (hd : s[m].toNat ≠ 10) : gaps s (f + 1) m = (if s[m].toNat = 32 then 1 else 0) + gaps s f (m + 1) := by
  rw [gaps, dif_pos h, if_neg hd]
theorem gaps_end (s : ByteArray) (f m : Nat) (h : m < s.size → (s.data.getD m 0).toNat = 10) : gaps s f m = 0 := by
  cases f with
  | zero => rfl
  | succ f =>
    rw [gaps]
    split
    · next hm =>
      have e : s.data.getD m 0 = s[m] := (Array.getElem_eq_getD (h := hm) 0).symm
      have := h hm
      rw [e] at this
      rw [if_pos this]
    · rfl
def lineB (s : ByteArray) (a : Nat) : Bool := decide (2 < 1 + gaps s (s.size - a) a)

set_option maxRecDepth 100000 in
set_option maxHeartbeats 2000000 in
theorem line_any (b : Nat) (s : ByteArray) (a : Nat) (no : Bool) (w : World) (h : Rd w b s a no) :
    Calls Tryz.prog 99 #[.pointer (some ⟨b, 0, none⟩)] w fun e w' => e = .returned (.bool (lineB s a)) ∧ ∃ q, w' = w.drewN q := by
  have c0 := h.c0
  have c1 := h.c1
  have hs := h.hs
  have ha := h.ha
  clear h
  go_enter Tryz.func99, Tryz.ntmps99
  go_wp2
  clear c1
  go_loopw [3, 4] (fun i v wr => ∃ m k q : Nat, a ≤ m ∧ m ≤ s.size ∧ i = .int .i64 m ∧ v = .int .i64 k ∧ Hid (k ≤ 1 + (m - a)) ∧ Hid (1 + gaps s (s.size - a) a = k + gaps s (s.size - m) m) ∧ wr = w.drewN q) (fun i _ _ => s.size - (intOf i).toNat)
  case atStart => exact ⟨a, 1, 0, by omega, ha, rfl, rfl, by unfold Hid; omega, by unfold Hid; rfl, rfl⟩
  case round =>
    obtain ⟨m, k, q, h1, h2, rfl, rfl, hk, hE, rfl⟩ := hrel
    have hk1 := hk.out
    by_cases hx : m < s.size
    · by_cases g : s[m].toNat = 10
      · have d1 : ((s[m].toNat : Int) != 10) = false := by simp; omega
        have E : Hid (lineB s a = decide ((2 : Int) < (k : Int))) := by
          have e : s.data.getD m 0 = s[m] := (Array.getElem_eq_getD (h := hx) 0).symm
          have := hE.out
          rw [gaps_end s _ m (fun _ => by rw [e]; exact g)] at this
          unfold Hid lineB
          rw [this]
          exact decide_eq_decide.2 (by omega)
        clear hE hk
        go_wp2_with fail
        try go_quiet (fail)
        go_wp2
        go_ret
        exact ⟨by rw [E.out]; simp, _, rfl⟩
      · have d1 : ((s[m].toNat : Int) != 10) = true := by simp; omega
        have st := gaps_go s (s.size - (m + 1)) m hx g
        rw [show s.size - (m + 1) + 1 = s.size - m by omega] at st
        by_cases g2 : s[m].toNat = 32
        · have d2 : ((s[m].toNat : Int) == 32) = true := by simp; omega
          rw [if_pos g2] at st
          have E : Hid (1 + gaps s (s.size - a) a = (k + 1) + gaps s (s.size - (m + 1)) (m + 1)) := by unfold Hid; rw [hE.out, st]; omega
          have K : Hid (k + 1 ≤ 1 + (m + 1 - a)) := by unfold Hid; omega
          clear hE hk st
          go_wp2
          go_roundw
          case rel => exact ⟨m + 1, k + 1, _, by omega, by omega, by go_num, by go_num, K, E, rfl⟩
          case measure => simp [intOf]; omega
        · have d2 : ((s[m].toNat : Int) == 32) = false := by simp; omega
          rw [if_neg g2] at st
          have E : Hid (1 + gaps s (s.size - a) a = k + gaps s (s.size - (m + 1)) (m + 1)) := by unfold Hid; rw [hE.out, st]; omega
          have K : Hid (k ≤ 1 + (m + 1 - a)) := by unfold Hid; omega
          clear hE hk st
          go_wp2
          go_roundw
          case rel => exact ⟨m + 1, k, _, by omega, by omega, by go_num, rfl, K, E, rfl⟩
          case measure => simp [intOf]; omega
    · have E : Hid (lineB s a = decide ((2 : Int) < (k : Int))) := by
        have := hE.out
        rw [gaps_end s _ m (fun h => absurd h hx)] at this
        unfold Hid lineB
        rw [this]
        exact decide_eq_decide.2 (by omega)
      have d1 : decide (m < s.size) = false := by simp; omega
      clear hE hk
      go_wp2
      go_ret
      exact ⟨by rw [E.out]; simp, _, rfl⟩

end Go.Proofs.YtaelaldmibgibaaGreatDoor

namespace Go.Proofs.YtaelaldmibgibaaGreatDoor
open Go.RowKit

/-- the sum of the first k bytes -/
def sumTo (s : ByteArray) : Nat → Nat
  | 0 => 0
  | k + 1 => (sumTo s k + (k + 1) * (s.data.getD k 0).toNat) % 1000003
theorem wrap64_in' (n : Int) (h : -9223372036854775808 ≤ n ∧ n ≤ 9223372036854775807) : wrap64 n = n := by unfold wrap64; omega
theorem sumTo_lt (s : ByteArray) (k : Nat) : sumTo s k < 1000003 := by
  cases k with
  | zero => show 0 < 1000003; decide
  | succ k => exact Nat.mod_lt _ (by decide)

set_option maxRecDepth 100000 in
set_option maxHeartbeats 2000000 in
theorem Sum_any (s : ByteArray) (hs : s.size ≤ 1000000000000) (w : World) :
    Calls Tryz.prog 55 #[.string s] w fun e w' => e = .returned (.int .i64 (sumTo s s.size)) ∧ ∃ q, w' = w.drewN q := by
  go_enter Tryz.func55, Tryz.ntmps55
  go_wp2
  go_loopw [3, 4] (fun v i wr => ∃ k q : Nat, k ≤ s.size ∧ i = .int .i64 k ∧ v = .int .i64 (sumTo s k) ∧ wr = w.drewN q) (fun _ i _ => s.size - (intOf i).toNat)
  case atStart => exact ⟨0, 0, by omega, rfl, rfl, rfl⟩
  case round =>
    obtain ⟨k, q, hk, rfl, rfl, rfl⟩ := hrel
    have hlt := sumTo_lt s k
    by_cases hx : k < s.size
    · have e : s.data.getD k 0 = s[k] := (Array.getElem_eq_getD (h := hx) 0).symm
      have ST : Hid (sumTo s (k + 1) = (sumTo s k + (k + 1) * s[k].toNat) % 1000003) := by unfold Hid; rw [sumTo, e]
      have hb : s[k].toNat < 256 := s[k].toNat_lt
      clear e
      generalize hS : sumTo s k = S at *
      generalize hB : s[k].toNat = B at *
      have hm : (k + 1) * B ≤ 1000000000000 * 255 := Nat.mul_le_mul (by omega) (by omega)
      have m1 : (0 : Int) ≤ ((k : Int) + 1) * (B : Int) := Int.mul_nonneg (by omega) (by omega)
      have m2 : ((k : Int) + 1) * (B : Int) ≤ 255000000000000 := by
        have : (((k + 1) * B : Nat) : Int) ≤ ((1000000000000 * 255 : Nat) : Int) := Int.ofNat_le.2 hm
        rw [Int.natCast_mul, Int.natCast_add] at this
        simpa using this
      have val : (wrap64 ((S : Int) + wrap64 (((k : Int) + 1) * wrap64 (B : Int)))).tmod 1000003 = (((S + (k + 1) * B) % 1000003 : Nat) : Int) := by
        rw [wrap64_in' (B : Int) (by omega), wrap64_in' (((k : Int) + 1) * (B : Int)) (by omega), wrap64_in' _ (by omega), Int.tmod_eq_emod_of_nonneg (by omega)]
        simp
      have HB := hide hB
      have HS := hide hS
      clear hB hS
      go_wp2
      go_roundw
      case rel => exact ⟨k + 1, _, by omega, by go_num, by rw [HB.out, ST.out, val], rfl⟩
      case measure => simp [intOf]; omega
    · have e : k = s.size := by omega
      subst e
      go_wp2
      go_ret
      exact ⟨rfl, _, rfl⟩

end Go.Proofs.YtaelaldmibgibaaGreatDoor

namespace Go.Proofs.YtaelaldmibgibaaGreatDoor
open Go.RowKit

def dig1 (n : Nat) : ByteArray := (⟨#[48, 49, 50, 51, 52, 53, 54, 55, 56, 57]⟩ : ByteArray).extract (n % 10) (n % 10 + 1)
def decF : Nat → Nat → ByteArray
  | 0, _ => .empty
  | f + 1, n => if n < 10 then dig1 n else decF f (n / 10) ++ dig1 n

theorem dig1_size (n : Nat) : (dig1 n).size = 1 := by
  have : n % 10 < 10 := Nat.mod_lt _ (by omega)
  have e : (⟨#[48, 49, 50, 51, 52, 53, 54, 55, 56, 57]⟩ : ByteArray).size = 10 := rfl
  unfold dig1
  rw [ByteArray.size_extract, e]
  omega
theorem decF_size (f : Nat) : ∀ n, (decF f n).size ≤ n + 1 := by
  induction f with
  | zero => intro n; exact Nat.zero_le _
  | succ f ih =>
    intro n
    rw [decF]
    split
    · rw [dig1_size]; omega
    · rw [ByteArray.size_append, dig1_size]
      have := ih (n / 10)
      omega

set_option maxRecDepth 100000 in
set_option maxHeartbeats 2000000 in
theorem refDecimal_any (f : Nat) : ∀ (n : Nat) (w : World), n < f → n ≤ 1000000000000 → Calls Tryz.prog 54 #[.int .i64 n] w fun e w' => e = .returned (.string (decF f n)) ∧ w' = w := by
  induction f with
  | zero => intro n w h; omega
  | succ f ih =>
    intro n w h hn
    have r1 : (n : Int).tmod 10 = ((n % 10 : Nat) : Int) := by rw [Int.tmod_eq_emod_of_nonneg (by omega)]; simp
    have r2 : (n : Int).tdiv 10 = ((n / 10 : Nat) : Int) := by rw [Int.tdiv_eq_ediv_of_nonneg (by omega)]; simp
    have hm : n % 10 < 10 := Nat.mod_lt _ (by omega)
    by_cases h10 : n < 10
    · have D : Hid (decF (f + 1) n = dig1 n) := by unfold Hid; rw [decF, if_pos h10]
      go_enter Tryz.func54, Tryz.ntmps54
      go_wp2
      go_ret
      exact ⟨by rw [D.out]; rfl, rfl⟩
    · have D : Hid (decF (f + 1) n = decF f (n / 10) ++ dig1 n) := by unfold Hid; rw [decF, if_neg h10]
      have C0 := ih (n / 10) w (by omega) (by omega)
      have e : ((n / 10 : Nat) : Int) = (n : Int) / 10 := by simp
      rw [e] at C0
      have C := hide C0
      have hd : decide ((n : Int) < 10) = false := by simp; omega
      have hz : ¬ (9223372036854775807 < (decF f (n / 10)).size + (min (n % 10 + 1) 10 - n % 10)) := by
        have := decF_size f (n / 10)
        omega
      clear ih C0 e
      go_enter Tryz.func54, Tryz.ntmps54
      go_wp2_with (go_at_call 54; refine C.out.mono ?_; rintro e w1 ⟨rfl, rfl⟩)
      go_ret
      exact ⟨by rw [D.out]; rfl, rfl⟩

end Go.Proofs.YtaelaldmibgibaaGreatDoor
