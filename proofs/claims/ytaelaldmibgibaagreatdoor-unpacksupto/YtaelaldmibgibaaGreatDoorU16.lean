/- The document's answer: place, of a path that was not spoken of. -/
import Derived.Test.YtaelaldmibgibaaGreatDoorU15
import Derived.Deep.DeepMust

set_option linter.unusedVariables false
set_option linter.unusedSimpArgs false

namespace Go.Proofs.YtaelaldmibgibaaGreatDoor
open Go.RowKit

theorem ins_length_le {α : Type} (a : Nat) (x : α) (l : List α) (k : Nat) : (ins a x l k).length ≤ k + 1 := by
  unfold ins
  split
  · have := List.length_take_le k l; omega
  · have h1 := List.length_take_le k l
    simp only [List.length_append, List.length_cons, List.length_drop, List.length_take]
    omega
theorem own_next {w1 : World} {base g cap : Nat} {a : Nat} {s y : ByteArray} {l : List ByteArray} {k : Nat} (e : ins a s l (k + 1) = ins a s l k ++ [y])
    (h : w1.ownsRow base 9 1 (.slice (some ⟨g, 0, none⟩) ((ins a s l k).length + 1) cap) ((ins a s l k).length + 1) (svs (ins a s l k) ++ [.string y])) :
    w1.ownsRow base 9 1 (.slice (some ⟨g, 0, none⟩) ((ins a s l k).length + 1) cap) (ins a s l (k + 1)).length (svs (ins a s l (k + 1))) := by
  rw [e, svs_append, List.length_append]
  exact h
theorem rowed_start (S : RS) (at_ : Nat) (pv : Value) (ps : List ByteArray) : Rowed S { S with paths := ps, pv := pv } at_ ps 0 :=
  ⟨rfl, rfl, rfl, fun _ _ _ _ h => by omega, fun _ _ h _ => h⟩
theorem row_prep {w wl : World} {b : Nat} {ρ ρr : Nat → Nat × Nat} {S Sr : RS} {at_ r m : Nat} {ps : List ByteArray} (hS : RefRep w b ρ S) (hR : RefRep wl b ρr Sr) (hRow : Rowed S Sr at_ ps r)
    (hlen : ∀ (r : Nat) (x : Value × List SP), S.rows[r]? = some x → x.2.length = m) (hlr : r < S.n) :
    ∃ ao co l cw c sg sc, S.rows[r]? = some (.slice ao m co, l) ∧ Sr.rows[r]? = some (.slice ao m co, l) ∧ S.coms[r]? = some (cw, c) ∧ Sr.coms[r]? = some (cw, c) ∧ l.length = m ∧ Sr.sv = .slice (some ⟨sg, 0, none⟩) S.n sc ∧
      wl.cell? ⟨b, 3, none⟩ = some (.slice (some ⟨sg, 0, none⟩) S.n sc) ∧ wl.cell? ⟨sg, r, none⟩ = some (.slice ao m co) ∧ wl.frozen? ⟨sg, r, none⟩ = false ∧ sg < wl.heap.size ∧ b < wl.heap.size := by
  have hrl : r < S.rows.length := by have := hS.rowl; omega
  have hcl : r < S.coms.length := by have := hS.coml; omega
  obtain ⟨ov, l, hx⟩ : ∃ ov l, S.rows[r]? = some (ov, l) := ⟨S.rows[r].1, S.rows[r].2, List.getElem?_eq_getElem hrl⟩
  obtain ⟨cw, c, hc⟩ : ∃ cw c, S.coms[r]? = some (cw, c) := ⟨S.coms[r].1, S.coms[r].2, List.getElem?_eq_getElem hcl⟩
  have hxr := hRow.hi r _ hx (Nat.le_refl _)
  have hcr : Sr.coms[r]? = some (cw, c) := by rw [hRow.coms]; exact hc
  have hll : l.length = m := hlen r _ hx
  have en := hRow.n
  obtain ⟨sg, sc, v', l', es, hs, hx', _, _, hsg, _, hsf⟩ := hR.theRow r (by omega)
  rw [hxr] at hx'
  simp at hx'
  obtain ⟨rfl, rfl⟩ := hx'
  rw [en] at es
  have hvf : ∃ ao co, ov = .slice ao m co := by
    rcases (hR.row r _ hxr).1.2 with ⟨e0, h00⟩ | ⟨g0, c0, cur, e0, _⟩
    · simp only at h00 e0
      exact ⟨none, 0, by rw [e0, ← hll, h00]⟩
    · simp only at e0
      exact ⟨_, c0, by rw [e0, hll]⟩
  obtain ⟨ao, co, rfl⟩ := hvf
  exact ⟨ao, co, l, cw, c, sg, sc, hx, hxr, hc, hcr, hll, es, by rw [hR.c3, es], hs, hsf r, hsg, hR.lt b (by rw [hR.rb]; decide)⟩
theorem own_next2 {w1 : World} {base g cap : Nat} {a : Nat} {s y : ByteArray} {l : List ByteArray} (e : ins a s l (a + 1) = ins a s l a ++ [s] ++ [y])
    (h : w1.ownsRow base 9 1 (.slice (some ⟨g, 0, none⟩) ((ins a s l a).length + 1 + 1) cap) ((ins a s l a).length + 1 + 1) (svs (ins a s l a) ++ [.string s] ++ [.string y])) :
    w1.ownsRow base 9 1 (.slice (some ⟨g, 0, none⟩) ((ins a s l a).length + 1 + 1) cap) (ins a s l (a + 1)).length (svs (ins a s l (a + 1))) := by
  rw [e, svs_append, svs_append, List.length_append, List.length_append]
  exact h

set_option maxRecDepth 100000 in
set_option maxHeartbeats 2000000 in
theorem place_mid (b : Nat) (s : ByteArray) (ρ : Nat → Nat × Nat) (S : RS) (w : World) (h : RefRep w b ρ S) (hnew : S.paths[atOf S.paths s]? ≠ some s) (hlen : ∀ (r : Nat) (x : Value × List SP), S.rows[r]? = some x → x.2.length = S.paths.length) (hm : S.paths.length ≤ 100000000) (hwh : atOf S.paths s < S.paths.length) :
    Calls Tryz.prog 56 #[.pointer (some ⟨b, 0, none⟩), .string s] w fun e w' => ∃ ρ' S', e = .returned (.int .i64 (atOf S.paths s)) ∧ RefRep w' b ρ' S' ∧ Grow w ρ ρ' ∧ Fr (fun k => (ρ k).1 ≠ 0) w w' ∧
      Rowed S S' (atOf S.paths s) (S.paths.take (atOf S.paths s) ++ s :: S.paths.drop (atOf S.paths s)) S.n := by
  obtain ⟨hml, a, cap, ep, hcp⟩ := strRow_form h.p
  have h1 := h.c1
  rw [ep] at h1
  have HC := hide hcp
  unfold maxLen at hml
  have HN := hide hnew
  have hb : b < w.heap.size := h.lt b (by rw [h.rb]; decide)
  have hf1 : w.frozen? ⟨b, 1, none⟩ = false := frozen_of_row w b 1 _ _ h.net
  have H := hide h
  have HL := hide hlen
  have HW := hide hwh
  clear hcp ep hnew h hlen hwh
  go_enter Tryz.func56, Tryz.ntmps56
  go_wp2
  go_loop [5] (fun i => ∃ k : Nat, k ≤ S.paths.length ∧ i = .int .i64 k ∧ Hid (∀ q ∈ S.paths.take k, slt q s = true)) (fun i => S.paths.length - (intOf i).toNat)
  case atStart => exact ⟨0, Nat.zero_le _, rfl, by unfold Hid; simp⟩
  case round =>
    obtain ⟨at_, hk, rfl, ha⟩ := hrel
    have hcases : (∃ p, S.paths[at_]? = some p ∧ slt p s = true) ∨ (at_ = atOf S.paths s ∧ ∀ p, S.paths[at_]? = some p → slt p s = false ∧ seq p s = false) := by
      by_cases hlt : at_ < S.paths.length
      · have hp : S.paths[at_]? = some S.paths[at_] := List.getElem?_eq_getElem hlt
        cases hb : slt S.paths[at_] s with
        | true => exact .inl ⟨_, hp, hb⟩
        | false =>
          have hk' := at_stop hk ha.out (fun q hq => by rw [hp] at hq; simp at hq; subst hq; exact hb)
          refine .inr ⟨hk', fun p hp' => ?_⟩
          rw [hp] at hp'; simp at hp'; subst hp'
          refine ⟨hb, ?_⟩
          cases hs : seq S.paths[at_] s with
          | false => rfl
          | true => exact absurd (by rw [← hk', hp, (seq_iff _ _).1 hs]) HN.out
      · exact .inr ⟨at_stop hk ha.out (fun q hq => by have := (List.getElem?_eq_some_iff.1 hq).1; omega), fun p hp => by have := (List.getElem?_eq_some_iff.1 hp).1; omega⟩
    rcases hcases with ⟨p, hp, hb'⟩ | ⟨hat, hno⟩
    · have hlt : at_ < S.paths.length := (List.getElem?_eq_some_iff.1 hp).1
      obtain ⟨g, rfl, hg, hcell⟩ := HC.out at_ p hp
      have T := hide (all_take_snoc ha.out hp hb')
      have hbb : Op.bytesLess p.toList s.toList = true := hb'
      clear hp hb'
      go_wp2
      go_round
      case rel => exact ⟨at_ + 1, by omega, by go_num, T⟩
      case measure => simp [intOf]; omega
    · have HAT := hide hat
      have hwh := HW.out
      rw [← hat] at hwh
      clear hat
      obtain ⟨p, hp⟩ : ∃ p, S.paths[at_]? = some p := ⟨S.paths[at_], List.getElem?_eq_getElem hwh⟩
      obtain ⟨g, rfl, hg, hcell⟩ := HC.out at_ p hp
      obtain ⟨q1, q2⟩ := hno p hp
      have hbb : Op.bytesLess p.toList s.toList = false := q1
      have hbe : (p.toList == s.toList) = false := q2
      clear hp q1 q2 hno
      go_wp2
      clear hbb hbe hcell hg
      generalize (some (⟨g, 0, none⟩ : Addr)) = a at *
      clear ha
      go_loopw [6, 7] (fun v i wr => ∃ k : Nat, k ≤ S.paths.length ∧ i = .int .i64 k ∧ wr.ownsRow w.heap.size 9 1 v (ins at_ s S.paths k).length (svs (ins at_ s S.paths k)) ∧ Hid (Below w.heap.size w wr)) (fun _ i _ => S.paths.length - (intOf i).toNat)
      case atStart => exact ⟨0, Nat.zero_le _, rfl, by rw [ins_zero]; exact World.ownsRow_nil _ _ _ _, Below.refl _ _⟩
      case round =>
        obtain ⟨k, hk2, rfl, hown, hbl⟩ := hrel
        have hil := ins_length_le at_ s S.paths k
        have hlo := hide (World.ownsRow.lt hown)
        have hbz := hbl.out.size
        have h1' : wr.cell? ⟨b, 1, none⟩ = some (.slice a S.paths.length cap) := (hbl.out.cell (p := ⟨b, 1, none⟩) hb).trans h1
        by_cases hlt2 : k < S.paths.length
        · obtain ⟨y, hy⟩ : ∃ y, S.paths[k]? = some y := ⟨S.paths[k], List.getElem?_eq_getElem hlt2⟩
          obtain ⟨g', rfl, hg', hcell'⟩ := HC.out k y hy
          have hcy : wr.cell? ⟨g', k, none⟩ = some (.string y) := (hbl.out.cell (p := ⟨g', k, none⟩) hg').trans hcell'
          have HCL := hide hcell'
          have H1 := hide h1
          have HF1 := hide hf1
          clear hcell' h1 hf1
          rcases Nat.lt_trichotomy k at_ with hka | hka | hka
          · have E := hide (ins_lt at_ s S.paths k y (by omega) hy)
            have hne : ((k : Int) == (at_ : Int)) = false := by simp; omega
            clear hy
            go_wp2_with (first | (at_builtin; go_must (refine app_str _ rfl (.tmp 66) (.tmp 74) rfl w.heap.size _ _ _ rfl (hown.alloc _) wr.heap.size y rfl (by simp) (by omega) (by simp; omega) ?_; intro g2 c2 w2 ho2 hgr2 hat2 hl2)))
            have hb2 := hide (grown_below (hbl.out.alloc hbl.out.size _) hgr2 (fun q hq => (hlo.out q hq).1))
            have O := hide (own_next E.out ho2)
            clear hgr2 hat2 ho2 hown hcy h1'
            go_wp2
            go_roundw
            case rel => exact ⟨k + 1, by omega, by go_num, O.out, hb2⟩
            case measure => simp [intOf]; omega
          · subst hka
            have E := hide (ins_at k s S.paths y hy)
            clear hy
            go_wp2_with (first | (at_builtin; refine app_str _ rfl (.tmp 62) (.tmp 64) rfl w.heap.size _ _ _ rfl (hown.alloc _) wr.heap.size s rfl (by simp) (by omega) (by simp; omega) ?_; intro g1 c1 w1 ho1 hgr1 hat1 hl1; have hb1 := hide (grown_below (hbl.out.alloc hbl.out.size _) hgr1 (fun q hq => (hlo.out q hq).1)); have h1b : w1.cell? ⟨b, 1, none⟩ = some (.slice (some ⟨g', 0, none⟩) S.paths.length cap) := (hb1.out.cell (p := ⟨b, 1, none⟩) hb).trans H1.out; have hcyb : w1.cell? ⟨g', k, none⟩ = some (.string y) := (hb1.out.cell (p := ⟨g', k, none⟩) hg').trans HCL.out; have hbz1 := hb1.out.size; have hlo1 := hide (World.ownsRow.lt ho1); clear hgr1 hat1) | (at_builtin; refine app_str _ rfl (.tmp 66) (.tmp 74) rfl w.heap.size _ _ _ rfl (ho1.alloc _) w1.heap.size y rfl (by simp) (by omega) (by simp; omega) ?_; intro g2 c2 w2 ho2 hgr2 hat2 hl2))
            have hb2 := hide (grown_below (hb1.out.alloc hb1.out.size _) hgr2 (fun q hq => (hlo1.out q hq).1))
            have O := hide (own_next2 E.out ho2)
            clear hgr2 hat2 ho2 hown hcy h1' ho1 h1b hcyb
            go_wp2
            go_roundw
            case rel => exact ⟨k + 1, by omega, by go_num, O.out, hb2⟩
            case measure => simp [intOf]; omega
          · have E := hide (ins_gt at_ s S.paths k y (by omega) hy)
            have hne : ((k : Int) == (at_ : Int)) = false := by simp; omega
            clear hy
            go_wp2_with (first | (at_builtin; go_must (refine app_str _ rfl (.tmp 66) (.tmp 74) rfl w.heap.size _ _ _ rfl (hown.alloc _) wr.heap.size y rfl (by simp) (by omega) (by simp; omega) ?_; intro g2 c2 w2 ho2 hgr2 hat2 hl2)))
            have hb2 := hide (grown_below (hbl.out.alloc hbl.out.size _) hgr2 (fun q hq => (hlo.out q hq).1))
            have O := hide (own_next E.out ho2)
            clear hgr2 hat2 ho2 hown hcy h1'
            go_wp2
            go_roundw
            case rel => exact ⟨k + 1, by omega, by go_num, O.out, hb2⟩
            case measure => simp [intOf]; omega
        · have ek : k = S.paths.length := by omega
          subst ek
          have e1 := ins_end at_ s S.paths hwh
          rw [e1] at hown
          have hpl : (S.paths.take at_ ++ s :: S.paths.drop at_).length = S.paths.length + 1 := by simp only [List.length_append, List.length_cons, List.length_take, List.length_drop]; omega
          rw [hpl] at hown
          obtain ⟨gp, cp, rfl, hgp, hgpl⟩ := World.ownsRow.form hown (by omega)
          have HO := hide hown
          have HP := hide hpl
          have hne : ((at_ : Int) == (S.paths.length : Int)) = false := by simp; omega
          have hf1' : wr.frozen? ⟨b, 1, none⟩ = false := (hbl.out.frozen (p := ⟨b, 1, none⟩) hb).trans hf1
          clear hown hlo e1 hil hpl
          generalize S.paths.length = m at *
          have R1 := (((unhide H).below hbl.out).upd (k := gp) (2, 0) ((unhide H).free hgp) hgpl).setPaths (.slice (some ⟨gp, 0, none⟩) (m + 1) cp) (S.paths.take at_ ++ s :: S.paths.drop at_) (by rw [HP.out]; exact ownsRow_base HO.out (fun _ _ => Nat.zero_le _)) (by intro q hq; simp [Value.ownBlock] at hq; subst hq; unfold upd; rw [if_pos rfl])
          have RR := hide R1
          have GG := hide ((Grow.refl w ρ).upd hgp (2, 0))
          have FF := hide ((Fr.of_below (S := fun k => (ρ k).1 ≠ 0) hbl.out).setCell (p := ⟨b, 1, none⟩) (.inl (by simp only; rw [(unhide H).rb]; decide)) (.slice (some ⟨gp, 0, none⟩) (m + 1) cp))
          clear R1
          go_wp2
          clear hf1' h1' hne h1 hf1
          go_loopw [8] (fun rv wl => ∃ r : Nat, r ≤ S.n ∧ rv = .int .i64 r ∧ ∃ ρr Sr, Hid (RefRep wl b ρr Sr) ∧ Hid (Grow w ρ ρr) ∧ Hid (Fr (fun k => (ρ k).1 ≠ 0) w wl) ∧ Hid (Rowed S Sr at_ (S.paths.take at_ ++ s :: S.paths.drop at_) r)) (fun rv _ => S.n - (intOf rv).toNat)
          case atStart => exact ⟨0, Nat.zero_le _, rfl, _, _, RR, GG, FF, rowed_start S at_ _ _⟩
          case round =>
            obtain ⟨r, hrn, rfl, ρr, Sr, hR, hG, hF, hRow⟩ := hrel
            have en := hRow.out.n
            have h0 := hR.out.c0
            rw [en] at h0
            have hn6 := (unhide H).n6
            by_cases hlr : r < S.n
            · obtain ⟨ao, co, l, cw, c, sg, sc, x1, x2, x3, x4, x5, x6, h3, hs, hsf, hsg, hbw⟩ := row_prep (unhide H) hR.out hRow.out HL.out hlr
              have HXX := hide x1
              have HXR := hide x2
              have HCC := hide x3
              have HCR := hide x4
              have HLL := hide x5
              have HES := hide x6
              have HEN := hide en
              have H3 := hide h3
              have HS := hide hs
              have HSF := hide hsf
              clear x1 x2 x3 x4 x5 x6 en hsf
              obtain ⟨W, hWW⟩ : ∃ W, W = wr := ⟨_, rfl⟩
              subst hWW
              go_wp2
              clear hs h3
              go_loopw [9, 10] (fun v i wi => ∃ k : Nat, k ≤ m ∧ i = .int .i64 k ∧ Hid (Gather W wi S.n at_ c l k v)) (fun _ i _ => m - (intOf i).toNat)
              case atStart => exact ⟨0, Nat.zero_le _, rfl, Gather.start _ _ _ _ _⟩
              case round =>
                obtain ⟨k, hk4, rfl, hga⟩ := hrel
                have hbz := hga.out.below.size
                have h3w : wr.cell? ⟨b, 3, none⟩ = some (.slice (some ⟨sg, 0, none⟩) S.n sc) := (hga.out.below.cell (p := ⟨b, 3, none⟩) hbw).trans H3.out
                have hsw : wr.cell? ⟨sg, r, none⟩ = some (.slice ao m co) := (hga.out.below.cell (p := ⟨sg, r, none⟩) hsg).trans HS.out
                by_cases hlt4 : k < m
                · obtain ⟨y, hy⟩ : ∃ y, l[k]? = some y := ⟨l[k]'(by rw [HLL.out]; exact hlt4), List.getElem?_eq_getElem _⟩
                  obtain ⟨g5, c5, gc, cc, gt, ct, ev, hg5, ec, et, q0, q1, q2, q3, q4, q5⟩ := hR.out.six r _ l HXR.out k y hy
                  simp at ev
                  obtain ⟨rfl, hmm, rfl⟩ := ev
                  clear hmm
                  rw [HEN.out] at ec et q4 q5
                  have hcells : Hid (y.cells = [.bool y.there, .string y.text, .int .i64 y.by_, .int .i64 y.num, .slice (some ⟨gc, 0, none⟩) S.n cc, .slice (some ⟨gt, 0, none⟩) S.n ct]) := by unfold Hid SP.cells; rw [ec, et]
                  have HY := hide hy
                  have CW := hide (fun (W' : World) (hb' : Below W.heap.size W W') => (⟨(hb'.cell (p := ⟨g5, k * 6, none⟩) hg5).trans q0, (hb'.cell (p := ⟨g5, k * 6 + 1, none⟩) hg5).trans q1, (hb'.cell (p := ⟨g5, k * 6 + 2, none⟩) hg5).trans q2, (hb'.cell (p := ⟨g5, k * 6 + 3, none⟩) hg5).trans q3, (hb'.cell (p := ⟨g5, k * 6 + 4, none⟩) hg5).trans q4, (hb'.cell (p := ⟨g5, k * 6 + 5, none⟩) hg5).trans q5⟩ : W'.cell? ⟨g5, k * 6, none⟩ = some (.bool y.there) ∧ W'.cell? ⟨g5, k * 6 + 1, none⟩ = some (.string y.text) ∧ W'.cell? ⟨g5, k * 6 + 2, none⟩ = some (.int .i64 y.by_) ∧ W'.cell? ⟨g5, k * 6 + 3, none⟩ = some (.int .i64 y.num) ∧ W'.cell? ⟨g5, k * 6 + 4, none⟩ = some (.slice (some ⟨gc, 0, none⟩) S.n cc) ∧ W'.cell? ⟨g5, k * 6 + 5, none⟩ = some (.slice (some ⟨gt, 0, none⟩) S.n ct)))
                  clear q0 q1 q2 q3 q4 q5 ec et hy
                  generalize y.there = y0 at *
                  generalize y.text = y1 at *
                  generalize y.by_ = y2 at *
                  generalize y.num = y3 at *
                  rcases Nat.lt_trichotomy k at_ with hka | hka | hka
                  · have hne : ((k : Int) == (at_ : Int)) = false := by simp; omega
                    obtain ⟨q0, q1, q2, q3, q4, q5⟩ := CW.out wr hga.out.below
                    have hown := hga.out.low (by omega)
                    go_wp2_with (first | (at_builtin; go_must (refine app_spot _ rfl (.tmp 120) (.tmp 131) rfl W.heap.size _ _ _ rfl (hown.alloc _) wr.heap.size y0 y1 y2 y3 _ _ _ _ _ _ rfl (heap_alloc_new _ _) (by omega) (by simp; omega) ?_; intro g2 c2 w2 ho2 hgr2 hat2 hl2)))
                    have G := hide (hga.out.lo hka y HY.out _ g2 c2 (by rw [hcells.out]; exact ho2) hgr2)
                    clear hgr2 hat2 ho2 hown q0 q1 q2 q3 q4 q5 h3w hsw
                    go_wp2
                    go_roundw
                    case rel => exact ⟨k + 1, by omega, by go_num, G⟩
                    case measure => simp [intOf]; omega
                  · subst hka
                    have hRw := hide (hR.out.below hga.out.below)
                    clear h3w hsw
                    have h3w : wr.cell? ⟨b, 3, none⟩ = some (.slice (some ⟨sg, 0, none⟩) S.n sc) := (hga.out.below.cell (p := ⟨b, 3, none⟩) hbw).trans H3.out
                    have hsw : wr.cell? ⟨sg, r, none⟩ = some (.slice (some ⟨g5, 0, none⟩) m co) := (hga.out.below.cell (p := ⟨sg, r, none⟩) hsg).trans HS.out
                    have hrr : r < Sr.n := by rw [HEN.out]; exact hlr
                    go_wp2_with (first
                      | (go_at_call 102; refine (fresh_form b r ρr Sr _ hRw.out hrr cw c HCR.out).mono ?_; rw [HEN.out]; rintro e wf ⟨gc0, cc0, gt0, ct0, rfl, hch0, htm0, hne0, hbf⟩; have hownf := hga.out.lowf (Nat.le_refl _) hbf.out; have hbzf := hbf.out.size)
                      | (at_builtin; refine app_spot _ rfl (.tmp 114) (.tmp 118) rfl W.heap.size _ _ _ rfl (hownf.alloc _) wf.heap.size false ⟨#[]⟩ 0 0 _ _ _ _ _ _ rfl (heap_alloc_new _ _) (by omega) (by simp; omega) ?_; intro g1 c1 w1 ho1 hgr1 hat1 hl1; have hh := hide (hga.out.put hbf.out ⟨false, ⟨#[]⟩, 0, 0, _, List.replicate S.n 0, _, c⟩ ⟨rfl, rfl, rfl, rfl, rfl, rfl⟩ hch0.out htm0.out (by intro q hq; simp [Value.ownBlock] at hq ⊢; omega) _ g1 c1 ho1 hgr1 hat1); have h3x : w1.cell? ⟨b, 3, none⟩ = some (.slice (some ⟨sg, 0, none⟩) S.n sc) := (hh.out.below.cell (p := ⟨b, 3, none⟩) hbw).trans H3.out; have hsx : w1.cell? ⟨sg, r, none⟩ = some (.slice (some ⟨g5, 0, none⟩) m co) := (hh.out.below.cell (p := ⟨sg, r, none⟩) hsg).trans HS.out; obtain ⟨q0, q1, q2, q3, q4, q5⟩ := CW.out w1 hh.out.below; have hbz1 := hh.out.below.size; obtain ⟨fr, hfr, hownh⟩ := hh.out.own; have HFR := hide hfr; clear hfr ho1 hgr1 hat1)
                      | (at_builtin; refine app_spot _ rfl (.tmp 120) (.tmp 131) rfl W.heap.size _ _ _ rfl (hownh.alloc _) w1.heap.size y0 y1 y2 y3 _ _ _ _ _ _ rfl (heap_alloc_new _ _) (by omega) (by simp; omega) ?_; intro g2 c2 w2 ho2 hgr2 hat2 hl2))
                    have G := hide (Half.next hh.out.below fr HFR.out hownh y HY.out _ g2 c2 (by rw [hcells.out]; exact ho2) hgr2 hat2)
                    clear hgr2 hat2 ho2 hownh hownf q0 q1 q2 q3 q4 q5 h3w hsw h3x hsx
                    go_wp2
                    go_roundw
                    case rel => exact ⟨k + 1, by omega, by go_num, G⟩
                    case measure => simp [intOf]; omega
                  · have hne : ((k : Int) == (at_ : Int)) = false := by simp; omega
                    obtain ⟨q0, q1, q2, q3, q4, q5⟩ := CW.out wr hga.out.below
                    obtain ⟨fr, hfr, hown⟩ := hga.out.high hka
                    have HFR := hide hfr
                    clear hfr
                    go_wp2_with (first | (at_builtin; go_must (refine app_spot _ rfl (.tmp 120) (.tmp 131) rfl W.heap.size _ _ _ rfl (hown.alloc _) wr.heap.size y0 y1 y2 y3 _ _ _ _ _ _ rfl (heap_alloc_new _ _) (by omega) (by simp; omega) ?_; intro g2 c2 w2 ho2 hgr2 hat2 hl2)))
                    have G := hide (Gather.hi hga.out.below hka fr HFR.out hown y HY.out _ g2 c2 (by rw [hcells.out]; exact ho2) hgr2 hat2)
                    clear hgr2 hat2 ho2 hown q0 q1 q2 q3 q4 q5 h3w hsw
                    go_wp2
                    go_roundw
                    case rel => exact ⟨k + 1, by omega, by go_num, G⟩
                    case measure => simp [intOf]; omega
                · have ek : k = m := by omega
                  subst ek
                  have hsfw : wr.frozen? ⟨sg, r, none⟩ = false := (hga.out.below.frozen (p := ⟨sg, r, none⟩) hsg).trans HSF.out
                  have hne : ((at_ : Int) == (k : Int)) = false := by simp; omega
                  have hga2 := hga.out
                  rw [← HLL.out] at hga2
                  have hwl := hga2.whole (by rw [HLL.out]; exact hwh)
                  rw [← HEN.out] at hwl
                  clear hga2
                  obtain ⟨ρ', fr, hRn, hGn, hfrn, gv, cvv, rfl⟩ := hwl.store hR.out HXR.out HCR.out sg sc (by rw [HEN.out]; exact HES.out) (by rw [HEN.out]; exact hlr)
                  rw [HLL.out] at hRn
                  have X1 := hide hRn
                  have X2 := hide (hG.out.trans (hF.out.size) hGn)
                  have X3 := hide ((hF.out.trans' (Fr.of_below hga.out.below) (fun _ _ h => h)).setCell (p := ⟨sg, r, none⟩) (by simp only; by_cases hz : sg < w.heap.size; exact .inl (by rcases hG.out sg (by rw [hR.out.rs sg (by rw [HES.out]; rfl)]; simp) with q | q; exact q; omega); exact .inr (by omega)) (.slice (some ⟨gv, 0, none⟩) (l.length + 1) cvv))
                  have X4 := hide (hRow.out.next (by have := hR.out.rowl; rw [this, HEN.out]; exact hlr) (.slice (some ⟨gv, 0, none⟩) (k + 1) cvv) _ l HXX.out fr cw c HCC.out (by rw [← HEN.out]; exact hfrn))
                  rw [HLL.out] at X3
                  clear hRn hGn hwl
                  rw [HLL.out]
                  go_wp2
                  go_roundw
                  case rel => exact ⟨r + 1, by omega, by go_num, _, _, X1, X2, X3, X4⟩
                  case measure => simp [intOf]; omega
            · go_wp2
              go_ret
              have er : r = S.n := by omega
              exact ⟨ρr, Sr, ret_int (by rw [← HAT.out]), hR.out, hG.out, hF.out, by rw [← HAT.out]; rw [er] at hRow; exact hRow.out⟩

end Go.Proofs.YtaelaldmibgibaaGreatDoor
