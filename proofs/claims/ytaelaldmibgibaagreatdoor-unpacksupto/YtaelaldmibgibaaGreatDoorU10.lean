/- The document's answer: place, of a path that comes behind all others. The document's answer and a net without memory: what hangs together (RInv); place changes nothing of it. The document's answer: Read. The document's answer: what a write or a removal makes of a net without memory. The document's answer: Write. The document's answer: gone, Remove. The document's answer: Remove. -/
import Derived.Test.YtaelaldmibgibaaGreatDoorU08

set_option linter.unusedVariables false
set_option linter.unusedSimpArgs false

namespace Go.Proofs.YtaelaldmibgibaaGreatDoor
open Go.RowKit

set_option maxRecDepth 100000 in
set_option maxHeartbeats 2000000 in
theorem place_end (b : Nat) (s : ByteArray) (ρ : Nat → Nat × Nat) (S : RS) (w : World) (h : RefRep w b ρ S) (hnew : S.paths[atOf S.paths s]? ≠ some s) (hlen : ∀ (r : Nat) (x : Value × List SP), S.rows[r]? = some x → x.2.length = S.paths.length) (hm : S.paths.length ≤ 100000000) (hwh : atOf S.paths s = S.paths.length) :
    Calls Tryz.prog 56 #[.pointer (some ⟨b, 0, none⟩), .string s] w fun e w' => ∃ ρ' S', e = .returned (.int .i64 (atOf S.paths s)) ∧ RefRep w' b ρ' S' ∧ Grow w ρ ρ' ∧ Fr (fun k => (ρ k).1 ≠ 0) w w' ∧
      Rowed S S' (atOf S.paths s) (S.paths.take (atOf S.paths s) ++ s :: S.paths.drop (atOf S.paths s)) S.n := by
  obtain ⟨hml, a, cap, ep, hcp⟩ := strRow_form h.p
  have h1 := h.c1
  rw [ep] at h1
  have HC := hide hcp
  unfold maxLen at hml
  have HN := hide hnew
  have hb : b < w.heap.size := h.lt b (by rw [h.rb]; decide)
  have hf1 : w.frozen? ⟨b, 1, none⟩ = false := frozen_of_row w b 1 _ _ h.net
  have H := hide h
  have HL := hide hlen
  have HW := hide hwh
  clear hcp ep hnew h hlen hwh
  go_enter Tryz.func56, Tryz.ntmps56
  go_wp2
  go_loop [5] (fun i => ∃ k : Nat, k ≤ S.paths.length ∧ i = .int .i64 k ∧ Hid (∀ q ∈ S.paths.take k, slt q s = true)) (fun i => S.paths.length - (intOf i).toNat)
  case atStart => exact ⟨0, Nat.zero_le _, rfl, by unfold Hid; simp⟩
  case round =>
    obtain ⟨at_, hk, rfl, ha⟩ := hrel
    have hcases : (∃ p, S.paths[at_]? = some p ∧ slt p s = true) ∨ (at_ = atOf S.paths s ∧ ∀ p, S.paths[at_]? = some p → slt p s = false ∧ seq p s = false) := by
      by_cases hlt : at_ < S.paths.length
      · have hp : S.paths[at_]? = some S.paths[at_] := List.getElem?_eq_getElem hlt
        cases hb : slt S.paths[at_] s with
        | true => exact .inl ⟨_, hp, hb⟩
        | false =>
          have hk' := at_stop hk ha.out (fun q hq => by rw [hp] at hq; simp at hq; subst hq; exact hb)
          refine .inr ⟨hk', fun p hp' => ?_⟩
          rw [hp] at hp'; simp at hp'; subst hp'
          refine ⟨hb, ?_⟩
          cases hs : seq S.paths[at_] s with
          | false => rfl
          | true => exact absurd (by rw [← hk', hp, (seq_iff _ _).1 hs]) HN.out
      · exact .inr ⟨at_stop hk ha.out (fun q hq => by have := (List.getElem?_eq_some_iff.1 hq).1; omega), fun p hp => by have := (List.getElem?_eq_some_iff.1 hp).1; omega⟩
    rcases hcases with ⟨p, hp, hb'⟩ | ⟨hat, hno⟩
    · have hlt : at_ < S.paths.length := (List.getElem?_eq_some_iff.1 hp).1
      obtain ⟨g, rfl, hg, hcell⟩ := HC.out at_ p hp
      have T := hide (all_take_snoc ha.out hp hb')
      have hbb : Op.bytesLess p.toList s.toList = true := hb'
      clear hp hb'
      go_wp2
      go_round
      case rel => exact ⟨at_ + 1, by omega, by go_num, T⟩
      case measure => simp [intOf]; omega
    · have HAT := hide hat
      have hwh := HW.out
      rw [← hat] at hwh
      clear hat
      clear hno
      have hwh' : ¬ at_ < S.paths.length := by omega
      have HWH := hide hwh
      clear hwh
      go_wp2
      clear ha
      go_loopw [6, 7] (fun v i wr => ∃ k : Nat, k ≤ S.paths.length ∧ i = .int .i64 k ∧ wr.ownsRow w.heap.size 9 1 v (ins at_ s S.paths k).length (svs (ins at_ s S.paths k)) ∧ Hid (Below w.heap.size w wr)) (fun _ i _ => S.paths.length - (intOf i).toNat)
      case atStart => exact ⟨0, Nat.zero_le _, rfl, by rw [ins_zero]; exact World.ownsRow_nil _ _ _ _, Below.refl _ _⟩
      case round =>
        obtain ⟨k, hk2, rfl, hown, hbl⟩ := hrel
        have hil := ins_length_le at_ s S.paths k
        have hlo := hide (World.ownsRow.lt hown)
        have hbz := hbl.out.size
        have h1' : wr.cell? ⟨b, 1, none⟩ = some (.slice a S.paths.length cap) := (hbl.out.cell (p := ⟨b, 1, none⟩) hb).trans h1
        by_cases hlt2 : k < S.paths.length
        · obtain ⟨y, hy⟩ : ∃ y, S.paths[k]? = some y := ⟨S.paths[k], List.getElem?_eq_getElem hlt2⟩
          obtain ⟨g', rfl, hg', hcell'⟩ := HC.out k y hy
          have hcy : wr.cell? ⟨g', k, none⟩ = some (.string y) := (hbl.out.cell (p := ⟨g', k, none⟩) hg').trans hcell'
          have HCL := hide hcell'
          have H1 := hide h1
          have HF1 := hide hf1
          clear hcell' h1 hf1
          have E := hide (ins_lt at_ s S.paths k y (by omega) hy)
          have hne : ((k : Int) == (at_ : Int)) = false := by simp; omega
          clear hy
          go_wp2_with (first | (at_builtin; go_must (refine app_str _ rfl (.tmp 66) (.tmp 74) rfl w.heap.size _ _ _ rfl (hown.alloc _) wr.heap.size y rfl (by simp) (by omega) (by simp; omega) ?_; intro g2 c2 w2 ho2 hgr2 hat2 hl2)))
          have hb2 := hide (grown_below (hbl.out.alloc hbl.out.size _) hgr2 (fun q hq => (hlo.out q hq).1))
          have O := hide (own_next E.out ho2)
          clear hgr2 hat2 ho2 hown hcy h1'
          go_wp2
          go_roundw
          case rel => exact ⟨k + 1, by omega, by go_num, O.out, hb2⟩
          case measure => simp [intOf]; omega
        · have ek : k = S.paths.length := by omega
          subst ek
          have e1 := ins_len S.paths s
          have hwh := HWH.out
          have hpl : (S.paths.take at_ ++ s :: S.paths.drop at_).length = S.paths.length + 1 := by simp only [List.length_append, List.length_cons, List.length_take, List.length_drop]; omega
          have hil0 : (ins at_ s S.paths S.paths.length).length = S.paths.length := by unfold ins; rw [if_pos (by omega), List.length_take]; omega
          rw [hil0] at hown
          have HP := hide hpl
          have hE : Hid (svs (ins at_ s S.paths S.paths.length) ++ [.string s] = svs (S.paths.take at_ ++ s :: S.paths.drop at_)) := by
            unfold Hid
            rw [hwh, ← e1, svs_append]; rfl
          have hat' : ((at_ : Int) == (S.paths.length : Int)) = true := by simp; omega
          have H1 := hide h1
          have HF1 := hide hf1
          clear e1 hil hpl hil0 hwh h1 hf1
          generalize hM : S.paths.length = m at *
          have HM := hide hM
          clear hM
          go_wp2_with (first | (at_builtin; refine app_str _ rfl (.tmp 83) (.tmp 85) rfl w.heap.size _ _ _ rfl (hown.alloc _) wr.heap.size s rfl (by simp) (by omega) (by simp; omega) ?_; intro gp cp w1 ho1 hgr1 hat1 hgpl; have hb1 := hide (grown_below (hbl.out.alloc hbl.out.size _) hgr1 (fun q hq => (hlo.out q hq).1)); have hf1' : w1.frozen? ⟨b, 1, none⟩ = false := (hb1.out.frozen (p := ⟨b, 1, none⟩) hb).trans HF1.out; have h1c : w1.cell? ⟨b, 1, none⟩ = some (.slice a m cap) := (hb1.out.cell (p := ⟨b, 1, none⟩) hb).trans H1.out; have HO := hide ho1; have hgp := (World.ownsRow.lt ho1 gp rfl).1; clear hgr1 hat1 ho1))
          clear hown hlo hat' h1' 
          have hwh := HWH.out
          have R1 := (((unhide H).below hb1.out).upd (k := gp) (2, 0) ((unhide H).free hgp) hgpl).setPaths (.slice (some ⟨gp, 0, none⟩) (m + 1) cp) (S.paths.take at_ ++ s :: S.paths.drop at_) (by rw [HP.out]; rw [← hE.out]; exact ownsRow_base HO.out (fun _ _ => Nat.zero_le _)) (by intro q hq; simp [Value.ownBlock] at hq; subst hq; unfold upd; rw [if_pos rfl])
          have RR := hide R1
          have GG := hide ((Grow.refl w ρ).upd hgp (2, 0))
          have FF := hide ((Fr.of_below (S := fun k => (ρ k).1 ≠ 0) hb1.out).setCell (p := ⟨b, 1, none⟩) (.inl (by simp only; rw [(unhide H).rb]; decide)) (.slice (some ⟨gp, 0, none⟩) (m + 1) cp))
          clear R1
          have HWH2 := hide hwh
          clear hf1' h1c hwh
          go_loopw [8] (fun rv wl => ∃ r : Nat, r ≤ S.n ∧ rv = .int .i64 r ∧ ∃ ρr Sr, Hid (RefRep wl b ρr Sr) ∧ Hid (Grow w ρ ρr) ∧ Hid (Fr (fun k => (ρ k).1 ≠ 0) w wl) ∧ Hid (Rowed S Sr at_ (S.paths.take at_ ++ s :: S.paths.drop at_) r)) (fun rv _ => S.n - (intOf rv).toNat)
          case atStart => exact ⟨0, Nat.zero_le _, rfl, _, _, RR, GG, FF, rowed_start S at_ _ _⟩
          case round =>
            obtain ⟨r, hrn, rfl, ρr, Sr, hR, hG, hF, hRow⟩ := hrel
            have en := hRow.out.n
            have h0 := hR.out.c0
            rw [en] at h0
            have hn6 := (unhide H).n6
            by_cases hlr : r < S.n
            · obtain ⟨ao, co, l, cw, c, sg, sc, x1, x2, x3, x4, x5, x6, h3, hs, hsf, hsg, hbw⟩ := row_prep (unhide H) hR.out hRow.out HL.out hlr
              have HXX := hide x1
              have HXR := hide x2
              have HCC := hide x3
              have HCR := hide x4
              have HLL := hide x5
              have HES := hide x6
              have HEN := hide en
              have H3 := hide h3
              have HS := hide hs
              have HSF := hide hsf
              clear x1 x2 x3 x4 x5 x6 en hsf
              obtain ⟨W, hWW⟩ : ∃ W, W = wr := ⟨_, rfl⟩
              subst hWW
              go_wp2
              clear hs h3
              go_loopw [9, 10] (fun v i wi => ∃ k : Nat, k ≤ m ∧ i = .int .i64 k ∧ Hid (Gather W wi S.n at_ c l k v)) (fun _ i _ => m - (intOf i).toNat)
              case atStart => exact ⟨0, Nat.zero_le _, rfl, Gather.start _ _ _ _ _⟩
              case round =>
                obtain ⟨k, hk4, rfl, hga⟩ := hrel
                have hbz := hga.out.below.size
                have h3w : wr.cell? ⟨b, 3, none⟩ = some (.slice (some ⟨sg, 0, none⟩) S.n sc) := (hga.out.below.cell (p := ⟨b, 3, none⟩) hbw).trans H3.out
                have hsw : wr.cell? ⟨sg, r, none⟩ = some (.slice ao m co) := (hga.out.below.cell (p := ⟨sg, r, none⟩) hsg).trans HS.out
                by_cases hlt4 : k < m
                · obtain ⟨y, hy⟩ : ∃ y, l[k]? = some y := ⟨l[k]'(by rw [HLL.out]; exact hlt4), List.getElem?_eq_getElem _⟩
                  obtain ⟨g5, c5, gc, cc, gt, ct, ev, hg5, ec, et, q0, q1, q2, q3, q4, q5⟩ := hR.out.six r _ l HXR.out k y hy
                  simp at ev
                  obtain ⟨rfl, hmm, rfl⟩ := ev
                  clear hmm
                  rw [HEN.out] at ec et q4 q5
                  have hcells : Hid (y.cells = [.bool y.there, .string y.text, .int .i64 y.by_, .int .i64 y.num, .slice (some ⟨gc, 0, none⟩) S.n cc, .slice (some ⟨gt, 0, none⟩) S.n ct]) := by unfold Hid SP.cells; rw [ec, et]
                  have HY := hide hy
                  have CW := hide (fun (W' : World) (hb' : Below W.heap.size W W') => (⟨(hb'.cell (p := ⟨g5, k * 6, none⟩) hg5).trans q0, (hb'.cell (p := ⟨g5, k * 6 + 1, none⟩) hg5).trans q1, (hb'.cell (p := ⟨g5, k * 6 + 2, none⟩) hg5).trans q2, (hb'.cell (p := ⟨g5, k * 6 + 3, none⟩) hg5).trans q3, (hb'.cell (p := ⟨g5, k * 6 + 4, none⟩) hg5).trans q4, (hb'.cell (p := ⟨g5, k * 6 + 5, none⟩) hg5).trans q5⟩ : W'.cell? ⟨g5, k * 6, none⟩ = some (.bool y.there) ∧ W'.cell? ⟨g5, k * 6 + 1, none⟩ = some (.string y.text) ∧ W'.cell? ⟨g5, k * 6 + 2, none⟩ = some (.int .i64 y.by_) ∧ W'.cell? ⟨g5, k * 6 + 3, none⟩ = some (.int .i64 y.num) ∧ W'.cell? ⟨g5, k * 6 + 4, none⟩ = some (.slice (some ⟨gc, 0, none⟩) S.n cc) ∧ W'.cell? ⟨g5, k * 6 + 5, none⟩ = some (.slice (some ⟨gt, 0, none⟩) S.n ct)))
                  clear q0 q1 q2 q3 q4 q5 ec et hy
                  generalize y.there = y0 at *
                  generalize y.text = y1 at *
                  generalize y.by_ = y2 at *
                  generalize y.num = y3 at *
                  have hka : k < at_ := by have := HWH2.out; omega
                  have hne : ((k : Int) == (at_ : Int)) = false := by simp; omega
                  obtain ⟨q0, q1, q2, q3, q4, q5⟩ := CW.out wr hga.out.below
                  have hown := hga.out.low (by omega)
                  go_wp2_with (first | (at_builtin; go_must (refine app_spot _ rfl (.tmp 120) (.tmp 131) rfl W.heap.size _ _ _ rfl (hown.alloc _) wr.heap.size y0 y1 y2 y3 _ _ _ _ _ _ rfl (heap_alloc_new _ _) (by omega) (by simp; omega) ?_; intro g2 c2 w2 ho2 hgr2 hat2 hl2)))
                  have G := hide (hga.out.lo hka y HY.out _ g2 c2 (by rw [hcells.out]; exact ho2) hgr2)
                  clear hgr2 hat2 ho2 hown q0 q1 q2 q3 q4 q5 h3w hsw
                  go_wp2
                  go_roundw
                  case rel => exact ⟨k + 1, by omega, by go_num, G⟩
                  case measure => simp [intOf]; omega
                · have ek : k = m := by omega
                  subst ek
                  have hka : at_ = k := HWH2.out
                  have hne : ((at_ : Int) == (k : Int)) = true := by simp; omega
                  have hRw := hide (hR.out.below hga.out.below)
                  have hrr : r < Sr.n := by rw [HEN.out]; exact hlr
                  have hga2 := hga.out
                  rw [← hka] at hga2
                  have HGA := hide hga2
                  have HKA := hide hka
                  clear hga2 hka hga
                  go_wp2_with (first
                    | (go_at_call 102; refine (fresh_form b r ρr Sr _ hRw.out hrr cw c HCR.out).mono ?_; rw [HEN.out]; rintro e wf ⟨gc0, cc0, gt0, ct0, rfl, hch0, htm0, hne0, hbf⟩; have hownf := HGA.out.lowf (Nat.le_refl _) hbf.out; have hbzf := hbf.out.size)
                    | (at_builtin; refine app_spot _ rfl (.tmp 143) (.tmp 147) rfl W.heap.size _ _ _ rfl (hownf.alloc _) wf.heap.size false ⟨#[]⟩ 0 0 _ _ _ _ _ _ rfl (heap_alloc_new _ _) (by omega) (by simp; omega) ?_; intro g1 c1 w1 ho1 hgr1 hat1 hl1; have hh := hide (HGA.out.put hbf.out ⟨false, ⟨#[]⟩, 0, 0, _, List.replicate S.n 0, _, c⟩ ⟨rfl, rfl, rfl, rfl, rfl, rfl⟩ hch0.out htm0.out (by intro q hq; simp [Value.ownBlock] at hq ⊢; omega) _ g1 c1 ho1 hgr1 hat1); have h3x : w1.cell? ⟨b, 3, none⟩ = some (.slice (some ⟨sg, 0, none⟩) S.n sc) := (hh.out.below.cell (p := ⟨b, 3, none⟩) hbw).trans H3.out; have hsx : w1.cell? ⟨sg, r, none⟩ = some (.slice ao k co) := (hh.out.below.cell (p := ⟨sg, r, none⟩) hsg).trans HS.out; have hsfw : w1.frozen? ⟨sg, r, none⟩ = false := (hh.out.below.frozen (p := ⟨sg, r, none⟩) hsg).trans HSF.out; clear ho1 hgr1 hat1))
                  have hwl := hh.out.whole (by rw [HLL.out]; exact HKA.out)
                  rw [← HEN.out] at hwl
                  obtain ⟨ρ', fr, hRn, hGn, hfrn, gv, cvv, hvv⟩ := hwl.store hR.out HXR.out HCR.out sg sc (by rw [HEN.out]; exact HES.out) (by rw [HEN.out]; exact hlr)
                  have X1 := hide hRn
                  have X2 := hide (hG.out.trans (hF.out.size) hGn)
                  have X3 := hide ((hF.out.trans' (Fr.of_below hh.out.below) (fun _ _ h => h)).setCell (p := ⟨sg, r, none⟩) (by simp only; by_cases hz : sg < w.heap.size; exact .inl (by rcases hG.out sg (by rw [hR.out.rs sg (by rw [HES.out]; rfl)]; simp) with q | q; exact q; omega); exact .inr (by omega)) (.slice (some ⟨g1, 0, none⟩) (at_ + 1) c1))
                  have X4 := hide (hRow.out.next (by have := hR.out.rowl; rw [this, HEN.out]; exact hlr) (.slice (some ⟨g1, 0, none⟩) (at_ + 1) c1) _ l HXX.out fr cw c HCC.out (by rw [← HEN.out]; exact hfrn))
                  clear hRn hGn hwl hvv h3x hsx hsfw
                  go_roundw
                  case rel => exact ⟨r + 1, by omega, by go_num, _, _, X1, X2, X3, X4⟩
                  case measure => simp [intOf]; omega
            · go_wp2
              go_ret
              have er : r = S.n := by omega
              exact ⟨ρr, Sr, ret_int (by rw [← HAT.out]), hR.out, hG.out, hF.out, by rw [← HAT.out]; rw [er] at hRow; exact hRow.out⟩

end Go.Proofs.YtaelaldmibgibaaGreatDoor

namespace Go.Proofs.YtaelaldmibgibaaGreatDoor
open Go.RowKit

def Sorted (ps : List ByteArray) : Prop := ps.Pairwise (fun a b => slt a b = true)
/-- the files of a row of spots -/
def rowF (ps : List ByteArray) (l : List SP) : Files := ((ps.zip l).filter (·.2.there)).map (fun x => (x.1, x.2.text))
def rowM (p : ByteArray) (s : SP) : Files := if s.there = true then [(p, s.text)] else []

theorem rowF_split (a b : List ByteArray) (p : ByteArray) (la lb : List SP) (s : SP) (h : a.length = la.length) : rowF (a ++ p :: b) (la ++ s :: lb) = rowF a la ++ rowM p s ++ rowF b lb := by
  unfold rowF rowM
  rw [List.zip_append h, List.filter_append, List.map_append, List.zip_cons_cons, List.filter_cons]
  by_cases ht : s.there = true
  · simp [ht]
  · simp [ht]
theorem rowF_mem {ps : List ByteArray} {l : List SP} {x : ByteArray × ByteArray} (h : x ∈ rowF ps l) : x.1 ∈ ps := by
  unfold rowF at h
  rw [List.mem_map] at h
  obtain ⟨y, hy, rfl⟩ := h
  exact (List.of_mem_zip (List.mem_filter.1 hy).1).1
theorem rowF_length (ps : List ByteArray) (l : List SP) (h : ps.length = l.length) : (rowF ps l).length = filesOf l := by
  unfold rowF filesOf
  rw [List.length_map]
  induction l generalizing ps with
  | nil => simp
  | cons s l ih =>
    cases ps with
    | nil => simp at h
    | cons p ps =>
      rw [List.zip_cons_cons, List.filter_cons, List.filter_cons]
      have := ih ps (by simpa using h)
      by_cases ht : s.there = true <;> simp [ht, this]

structure RInv (S : RS) (A : Abs) : Prop where
  n : A.n = S.n
  sorted : Sorted S.paths
  len : ∀ (r : Nat) (x : Value × List SP), S.rows[r]? = some x → x.2.length = S.paths.length
  files : ∀ (r : Nat) (v : Value) (l : List SP), S.rows[r]? = some (v, l) → A.F r = rowF S.paths l
  cnt : ∀ r, r < S.n → A.c r = S.count r ∧ 0 ≤ A.c r
  tm : ∀ (r : Nat) (v : Value) (l : List SP) (cw : Value) (c : List Int), S.rows[r]? = some (v, l) → S.coms[r]? = some (cw, c) → ∀ s ∈ l, s.tm = c

/-- about a path that is there -/
theorem sorted_split {a b : List ByteArray} {p : ByteArray} (h : Sorted (a ++ p :: b)) : (∀ q ∈ a, slt q p = true) ∧ (∀ q ∈ b, slt p q = true) := by
  unfold Sorted at h
  rw [List.pairwise_append] at h
  exact ⟨fun q hq => h.2.2 q hq p (by simp), fun q hq => (List.pairwise_cons.1 h.2.1).1 q hq⟩
theorem parts_of {a b : List ByteArray} {p : ByteArray} {la lb : List SP} {s : SP} (h : Sorted (a ++ p :: b)) : Parts p (rowF a la) (rowM p s) (rowF b lb) :=
  ⟨fun x hx => (sorted_split h).1 _ (rowF_mem hx), fun x hx => (sorted_split h).2 _ (rowF_mem hx), fun x hx => by
    unfold rowM at hx
    split at hx
    · simp at hx; rw [hx]
    · simp at hx⟩

theorem atOf_take (ps : List ByteArray) (p : ByteArray) : ∀ q ∈ ps.take (atOf ps p), slt q p = true := by
  unfold atOf
  induction ps with
  | nil => simp
  | cons x ps ih =>
    rw [List.takeWhile_cons]
    by_cases hx : slt x p = true
    · rw [if_pos hx]
      intro q hq
      simp at hq
      rcases hq with rfl | hq
      · exact hx
      · exact ih q hq
    · rw [if_neg hx]; simp
theorem atOf_le (ps : List ByteArray) (p : ByteArray) : atOf ps p ≤ ps.length := by
  unfold atOf
  induction ps with
  | nil => simp
  | cons x ps ih =>
    rw [List.takeWhile_cons]
    split
    · simp; exact ih
    · simp
theorem atOf_get (ps : List ByteArray) (p q : ByteArray) (h : ps[atOf ps p]? = some q) : slt q p = false := by
  unfold atOf at h
  induction ps with
  | nil => simp at h
  | cons x ps ih =>
    rw [List.takeWhile_cons] at h
    by_cases hx : slt x p = true
    · rw [if_pos hx] at h
      simp at h
      exact ih h
    · rw [if_neg hx] at h
      simp at h
      subst h
      simpa using hx
theorem atOf_drop (ps : List ByteArray) (p : ByteArray) (hs : Sorted ps) (hnew : ps[atOf ps p]? ≠ some p) : ∀ q ∈ ps.drop (atOf ps p), slt p q = true := by
  intro q hq
  obtain ⟨i, hi, rfl⟩ := List.mem_iff_getElem.1 hq
  simp only [List.length_drop] at hi
  rw [List.getElem_drop]
  have hlt : atOf ps p < ps.length := by omega
  have h0 := atOf_get ps p ps[atOf ps p] (List.getElem?_eq_getElem hlt)
  have h1 : slt p ps[atOf ps p] = true := by
    cases e : slt p ps[atOf ps p] with
    | true => rfl
    | false =>
      have := slt_tri h0 e
      exact absurd (by rw [List.getElem?_eq_getElem hlt, this]) hnew
  cases i with
  | zero => simpa using h1
  | succ i =>
    have := List.pairwise_iff_getElem.1 hs (atOf ps p) (atOf ps p + (i + 1)) hlt (by omega) (by omega)
    exact slt_trans h1 this
theorem sorted_ins (ps : List ByteArray) (p : ByteArray) (hs : Sorted ps) (hnew : ps[atOf ps p]? ≠ some p) : Sorted (ps.take (atOf ps p) ++ p :: ps.drop (atOf ps p)) := by
  unfold Sorted
  rw [List.pairwise_append]
  refine ⟨hs.sublist (List.take_sublist _ _), ?_, ?_⟩
  · rw [List.pairwise_cons]
    exact ⟨atOf_drop ps p hs hnew, hs.sublist (List.drop_sublist _ _)⟩
  · intro x hx y hy
    have h1 := atOf_take ps p x hx
    rw [List.mem_cons] at hy
    rcases hy with rfl | hy
    · exact h1
    · exact slt_trans h1 (atOf_drop ps p hs hnew y hy)

/-- a new path changes nothing of what there is -/
theorem RInv.placed {w : World} {b : Nat} {ρ : Nat → Nat × Nat} {S S' : RS} {A : Abs} (h : RInv S A) (hR : RefRep w b ρ S) (p : ByteArray) (hnew : S.paths[atOf S.paths p]? ≠ some p)
    (hRow : Rowed S S' (atOf S.paths p) (S.paths.take (atOf S.paths p) ++ p :: S.paths.drop (atOf S.paths p)) S.n) (hl : S'.rows.length = S.n) : RInv S' A := by
  have hat := atOf_le S.paths p
  have key : ∀ (r : Nat) (v' : Value) (l' : List SP), S'.rows[r]? = some (v', l') → ∃ (v : Value) (l : List SP) (fr : SP) (cw : Value) (c : List Int), S.rows[r]? = some (v, l) ∧ l' = l.take (atOf S.paths p) ++ fr :: l.drop (atOf S.paths p) ∧ S.coms[r]? = some (cw, c) ∧ Fresh S.n c fr := by
    intro r v' l' hx
    have hr : r < S.n := by have := (List.getElem?_eq_some_iff.1 hx).1; omega
    have hrl : r < S.rows.length := by rw [hR.rowl]; exact hr
    obtain ⟨v, l, hx0⟩ : ∃ v l, S.rows[r]? = some (v, l) := ⟨S.rows[r].1, S.rows[r].2, List.getElem?_eq_getElem hrl⟩
    obtain ⟨v'', fr, cw, c, h1, h2, h3⟩ := hRow.lo r v l hx0 hr
    rw [h1] at hx
    simp at hx
    exact ⟨v, l, fr, cw, c, hx0, hx.2.symm, h2, h3⟩
  refine ⟨by rw [h.n, hRow.n], ?_, ?_, ?_, ?_, ?_⟩
  · rw [hRow.paths]; exact sorted_ins _ _ h.sorted hnew
  · rintro r ⟨v', l'⟩ hx
    obtain ⟨v, l, fr, cw, c, h0, rfl, _, _⟩ := key r v' l' hx
    have := h.len r _ h0
    simp only at this
    rw [hRow.paths]
    simp only [List.length_append, List.length_cons, List.length_take, List.length_drop]
    omega
  · intro r v' l' hx
    obtain ⟨v, l, fr, cw, c, h0, rfl, _, hf⟩ := key r v' l' hx
    have hlen := h.len r _ h0
    simp only at hlen
    rw [hRow.paths, rowF_split _ _ _ _ _ _ (by rw [List.length_take, List.length_take, hlen]), h.files r v l h0]
    have e : rowM p fr = [] := by unfold rowM; rw [hf.there]; simp
    rw [e, List.append_nil]
    unfold rowF
    rw [← List.map_append, ← List.filter_append, ← List.zip_append (by rw [List.length_take, List.length_take, hlen]), List.take_append_drop, List.take_append_drop]
  · intro r hr
    have := h.cnt r (by rw [← hRow.n]; exact hr)
    unfold RS.count at *
    rw [hRow.coms]
    exact this
  · intro r v' l' cw c hx hc s hs
    obtain ⟨v, l, fr, cw', c', h0, rfl, h2, hf⟩ := key r v' l' hx
    rw [hRow.coms, h2] at hc
    simp at hc
    obtain ⟨rfl, rfl⟩ := hc
    have hs' : s ∈ l ∨ s = fr := by
      simp only [List.mem_append, List.mem_cons] at hs
      rcases hs with hs | hs | hs
      · exact .inl (List.mem_of_mem_take hs)
      · exact .inr hs
      · exact .inl (List.mem_of_mem_drop hs)
    rcases hs' with hs' | rfl
    · exact h.tm r v l _ _ h0 h2 s hs'
    · exact hf.tm

/-- place, of whatever path -/
theorem place_any (b : Nat) (p : ByteArray) (ρ : Nat → Nat × Nat) (S : RS) (A : Abs) (w : World) (h : RefRep w b ρ S) (hI : RInv S A) (hm : S.paths.length ≤ 100000000) :
    Calls Tryz.prog 56 #[.pointer (some ⟨b, 0, none⟩), .string p] w fun e w' => ∃ ρ' S' at_, e = .returned (.int .i64 (at_ : Nat)) ∧ RefRep w' b ρ' S' ∧ RInv S' A ∧ Grow w ρ ρ' ∧ Fr (fun k => (ρ k).1 ≠ 0) w w' ∧
      S'.paths[at_]? = some p ∧ S'.n = S.n ∧ S'.paths.length ≤ S.paths.length + 1 ∧ (∀ q ∈ S'.paths, q ∈ S.paths ∨ q = p) := by
  have hat := atOf_le S.paths p
  by_cases hin : S.paths[atOf S.paths p]? = some p
  · refine (place_old b p ρ S w h hin).mono ?_
    rintro e w' ⟨rfl, rfl⟩
    exact ⟨ρ, S, _, rfl, h, hI, Grow.refl _ _, Fr.refl _ _, hin, rfl, by omega, fun q hq => .inl hq⟩
  · have fin : ∀ (e : Ending) (w' : World), (∃ ρ' S', e = .returned (.int .i64 (atOf S.paths p)) ∧ RefRep w' b ρ' S' ∧ Grow w ρ ρ' ∧ Fr (fun k => (ρ k).1 ≠ 0) w w' ∧
        Rowed S S' (atOf S.paths p) (S.paths.take (atOf S.paths p) ++ p :: S.paths.drop (atOf S.paths p)) S.n) → ∃ ρ' S' at_, e = .returned (.int .i64 (at_ : Nat)) ∧ RefRep w' b ρ' S' ∧ RInv S' A ∧ Grow w ρ ρ' ∧ Fr (fun k => (ρ k).1 ≠ 0) w w' ∧
      S'.paths[at_]? = some p ∧ S'.n = S.n ∧ S'.paths.length ≤ S.paths.length + 1 ∧ (∀ q ∈ S'.paths, q ∈ S.paths ∨ q = p) := by
      rintro e w' ⟨ρ', S', rfl, hR', hG, hF, hRow⟩
      refine ⟨ρ', S', _, rfl, hR', hI.placed h p hin hRow (by rw [hR'.rowl, hRow.n]), hG, hF, ?_, hRow.n, ?_, ?_⟩
      · rw [hRow.paths, List.getElem?_append_right (by rw [List.length_take]; omega), List.length_take]
        have : atOf S.paths p - min (atOf S.paths p) S.paths.length = 0 := by omega
        rw [this]; rfl
      · rw [hRow.paths]
        simp only [List.length_append, List.length_cons, List.length_take, List.length_drop]; omega
      · intro q hq
        rw [hRow.paths] at hq
        rcases List.mem_append.1 hq with hq | hq
        · exact .inl (List.mem_of_mem_take hq)
        · rcases List.mem_cons.1 hq with hq | hq
          · exact .inr hq
          · exact .inl (List.mem_of_mem_drop hq)
    rcases Nat.lt_or_ge (atOf S.paths p) S.paths.length with hlt | hge
    · exact (place_mid b p ρ S w h hin hI.len hm hlt).mono fin
    · exact (place_end b p ρ S w h hin hI.len hm (by omega)).mono fin

end Go.Proofs.YtaelaldmibgibaaGreatDoor

namespace Go.Proofs.YtaelaldmibgibaaGreatDoor
open Go.RowKit

/-- the spot of a path, in a replica -/
theorem spot_at {w : World} {b : Nat} {ρ : Nat → Nat × Nat} {S : RS} {A : Abs} (h : RefRep w b ρ S) (hI : RInv S A) (r : Nat) (hr : r < S.n) (i : Nat) (p : ByteArray) (hp : S.paths[i]? = some p) :
    ∃ sg sc g cap l s, S.sv = .slice (some ⟨sg, 0, none⟩) S.n sc ∧ w.cell? ⟨b, 3, none⟩ = some (.slice (some ⟨sg, 0, none⟩) S.n sc) ∧ w.cell? ⟨sg, r, none⟩ = some (.slice (some ⟨g, 0, none⟩) l.length cap) ∧ S.rows[r]? = some (.slice (some ⟨g, 0, none⟩) l.length cap, l) ∧ l[i]? = some s ∧ l.length = S.paths.length ∧
      A.F r = rowF (S.paths.take i) (l.take i) ++ rowM p s ++ rowF (S.paths.drop (i + 1)) (l.drop (i + 1)) ∧ Parts p (rowF (S.paths.take i) (l.take i)) (rowM p s) (rowF (S.paths.drop (i + 1)) (l.drop (i + 1))) ∧
      g < w.heap.size ∧ (∀ j, j < 6 → w.cell? ⟨g, i * 6 + j, none⟩ = s.cells[j]?) ∧ (∀ k, w.frozen? ⟨g, k, none⟩ = false) := by
  obtain ⟨sg, sc, v, l, es, hs, hx, hrow, _, _, _, _⟩ := h.theRow r hr
  have hl := hI.len r _ hx
  simp only at hl
  obtain ⟨hi, rfl⟩ := List.getElem?_eq_some_iff.1 hp
  have hks : l[i]? = some (l[i]'(by omega)) := List.getElem?_eq_getElem (by omega)
  generalize l[i]'(by omega) = s at hks
  obtain ⟨g, cap, rfl, hg, _, hc, hf⟩ := spot_cells hrow i s hks
  have e1 : S.paths = S.paths.take i ++ S.paths[i] :: S.paths.drop (i + 1) := by rw [← List.drop_eq_getElem_cons hi, List.take_append_drop]
  have e2 : l = l.take i ++ s :: l.drop (i + 1) := by
    obtain ⟨hil, rfl⟩ := List.getElem?_eq_some_iff.1 hks
    rw [← List.drop_eq_getElem_cons hil, List.take_append_drop]
  refine ⟨sg, sc, g, cap, l, s, es, by rw [h.c3, es], hs, hx, hks, hl, ?_, ?_, hg, hc, hf⟩
  · rw [hI.files r _ l hx]
    have := rowF_split (S.paths.take i) (S.paths.drop (i + 1)) S.paths[i] (l.take i) (l.drop (i + 1)) s (by rw [List.length_take, List.length_take]; omega)
    rw [← e1, ← e2] at this
    exact this
  · refine parts_of (a := S.paths.take i) (b := S.paths.drop (i + 1)) ?_
    rw [← e1]; exact hI.sorted

theorem rowM_head (p : ByteArray) (s : SP) : (rowM p s).head?.map (·.2) = if s.there = true then some s.text else none := by
  unfold rowM; split <;> rfl

theorem asked_bad (b : Nat) (r : Int) (s : ByteArray) (ρ : Nat → Nat × Nat) (S : RS) (A : Abs) (w : World) (h : RefRep w b ρ S) (hI : RInv S A) (hs : s.size ≤ maxLen) (ho : A.out r = true) :
    Calls Tryz.prog 150 #[.pointer (some ⟨b, 0, none⟩), .int .i64 r, .string s] w fun e w' => e = .returned (.int .i64 1) ∧ w' = w := by
  have := asked_any b r s ρ S w h hs
  unfold Abs.out at ho
  rw [hI.n] at ho
  rw [if_pos (by simpa using ho)] at this
  exact this
theorem asked_path (b : Nat) (r : Int) (s : ByteArray) (ρ : Nat → Nat × Nat) (S : RS) (A : Abs) (w : World) (h : RefRep w b ρ S) (hI : RInv S A) (hs : s.size ≤ maxLen) (ho : A.out r = false) (hp : pathOk s = false) :
    Calls Tryz.prog 150 #[.pointer (some ⟨b, 0, none⟩), .int .i64 r, .string s] w fun e w' => e = .returned (.int .i64 2) ∧ w' = w := by
  have := asked_any b r s ρ S w h hs
  unfold Abs.out at ho
  rw [hI.n] at ho
  rw [if_neg (by simpa using ho), if_neg (by rw [hp]; simp)] at this
  exact this
theorem asked_ok (b : Nat) (r : Int) (s : ByteArray) (ρ : Nat → Nat × Nat) (S : RS) (A : Abs) (w : World) (h : RefRep w b ρ S) (hI : RInv S A) (hs : s.size ≤ maxLen) (ho : A.out r = false) (hp : pathOk s = true) :
    Calls Tryz.prog 150 #[.pointer (some ⟨b, 0, none⟩), .int .i64 r, .string s] w fun e w' => e = .returned (.int .i64 0) ∧ w' = w := by
  have := asked_any b r s ρ S w h hs
  unfold Abs.out at ho
  rw [hI.n] at ho
  rw [if_neg (by simpa using ho), if_pos hp] at this
  exact this
theorem out_nat {A : Abs} {r : Int} (h : A.out r = false) : ∃ q : Nat, r = (q : Int) ∧ q < A.n := by
  unfold Abs.out at h
  simp at h
  exact ⟨r.toNat, by omega, by omega⟩

theorem ret_si {a b : ByteArray} {x y : Int} (h : a = b) (h' : x = y) : Ending.returned (.tuple #[.string a, .int .i64 x]) = .returned (.tuple #[.string b, .int .i64 y]) := by rw [h, h']

/-- what a call of the document's answer leaves, besides its answer -/
structure After (w : World) (b : Nat) (ρ : Nat → Nat × Nat) (S : RS) (A : Abs) (w' : World) (ρ' : Nat → Nat × Nat) (S' : RS) : Prop where
  rep : RefRep w' b ρ' S'
  inv : RInv S' A
  grow : Grow w ρ ρ'
  fr : Fr (fun k => (ρ k).1 ≠ 0) w w'
  n : S'.n = S.n
  len : S'.paths.length ≤ S.paths.length + 1
  sub : ∀ q ∈ S'.paths, q ∈ S.paths ∨ pathOk q = true
theorem After.refl {w : World} {b : Nat} {ρ : Nat → Nat × Nat} {S : RS} {A : Abs} (h : RefRep w b ρ S) (hI : RInv S A) : After w b ρ S A w ρ S :=
  ⟨h, hI, Grow.refl _ _, Fr.refl _ _, rfl, by omega, fun q hq => .inl hq⟩

set_option maxHeartbeats 600000 in
theorem refRead_any (b : Nat) (r : Int) (p : ByteArray) (ρ : Nat → Nat × Nat) (S : RS) (A : Abs) (w : World) (h : RefRep w b ρ S) (hI : RInv S A) (hm : S.paths.length ≤ 100000000) (hs : p.size ≤ maxLen) :
    Calls Tryz.prog 85 #[.pointer (some ⟨b, 0, none⟩), .int .i64 r, .string p] w fun e w' => ∃ ρ' S', e = .returned (.tuple #[.string (A.readT r p), .int .i64 (A.readE r p)]) ∧ After w b ρ S A w' ρ' S' := by
  cases ho : A.out r with
  | true =>
    have e1 : A.readE r p = 1 := by unfold Abs.readE; rw [if_pos ho]
    have e2 : A.readT r p = ⟨#[]⟩ := by unfold Abs.readT; rw [e1]; rfl
    rw [e1, e2]
    have H := hide (After.refl h hI)
    have C := hide (asked_bad b r p ρ S A w h hI hs ho)
    clear h hI
    go_enter Tryz.func85, Tryz.ntmps85
    go_wp2_with (go_at_call 150; refine C.out.mono ?_; rintro e w' ⟨rfl, rfl⟩)
    go_ret2
    exact ⟨ρ, S, rfl, H.out⟩
  | false =>
    cases hp : pathOk p with
    | false =>
      have e1 : A.readE r p = 2 := by unfold Abs.readE; rw [if_neg (by rw [ho]; simp), if_pos hp]
      have e2 : A.readT r p = ⟨#[]⟩ := by unfold Abs.readT; rw [e1]; rfl
      rw [e1, e2]
      have H := hide (After.refl h hI)
      have C := hide (asked_path b r p ρ S A w h hI hs ho hp)
      clear h hI
      go_enter Tryz.func85, Tryz.ntmps85
      go_wp2_with (go_at_call 150; refine C.out.mono ?_; rintro e w' ⟨rfl, rfl⟩)
      go_ret2
      exact ⟨ρ, S, rfl, H.out⟩
    | true =>
      have C := hide (asked_ok b r p ρ S A w h hI hs ho hp)
      have D := hide (place_any b p ρ S A w h hI hm)
      have HPO := hide hp
      have e1 : Hid (A.readE r p = if get p (A.F r.toNat) = none then 4 else 0) := by unfold Hid Abs.readE; rw [if_neg (by rw [ho]; simp), if_neg (by rw [hp]; simp)]
      have e2 : Hid (A.readT r p = if A.readE r p = 0 then (get p (A.F r.toNat)).getD ⟨#[]⟩ else ⟨#[]⟩) := by unfold Hid Abs.readT; rfl
      obtain ⟨q, rfl, hq⟩ := out_nat ho
      have hqn : q < S.n := by rw [← hI.n]; exact hq
      clear h hI ho hp hq
      rw [Int.toNat_natCast] at e1 e2
      go_enter Tryz.func85, Tryz.ntmps85
      go_wp2_with fail
      refine C.out.mono ?_
      rintro e w ⟨rfl, rfl⟩
      go_wp2_with fail
      refine D.out.mono ?_
      rintro e w' ⟨ρ', S', i, rfl, hR, hI', hG, hF, hpi, hn', hl', hsub⟩
      obtain ⟨sg, sc, g, cap, l, s, es, h3, hsr, hx, hks, hll, hA, hP, hg, hc, _⟩ := spot_at hR hI' q (by omega) i p hpi
      have hget := hP.get
      rw [← hA, rowM_head] at hget
      have c0 : w'.cell? ⟨g, i * 6, none⟩ = some (.bool s.there) := by simpa [SP.cells] using hc 0 (by omega)
      have c1 : w'.cell? ⟨g, i * 6 + 1, none⟩ = some (.string s.text) := by simpa [SP.cells] using hc 1 (by omega)
      have hil : i < l.length := (List.getElem?_eq_some_iff.1 hks).1
      have hn6 := hR.n6
      have T := hide (⟨hR, hI', hG, hF, hn', hl', fun q hq => (hsub q hq).imp id (fun e => by rw [e]; exact HPO.out)⟩ : After w b ρ S A w' ρ' S')
      clear hks hx es hA hP hc hpi hG hF hl' hll hI' hR
      cases ht : s.there with
      | true =>
        rw [ht] at hget c0
        rw [if_pos rfl] at hget
        have E1 : Hid (A.readE (q : Int) p = 0) := by unfold Hid; rw [e1.out, hget]; rfl
        have E2 : Hid (A.readT (q : Int) p = s.text) := by unfold Hid; rw [e2.out, E1.out, hget]; rfl
        clear hget e1 e2 ht
        generalize S'.n = n at *
        go_wp2
        go_ret2
        exact ⟨ρ', S', ret_si E2.out.symm E1.out.symm, T.out⟩
      | false =>
        rw [ht] at hget c0
        rw [if_neg (by simp)] at hget
        have E1 : Hid (A.readE (q : Int) p = 4) := by unfold Hid; rw [e1.out, hget]; rfl
        have E2 : Hid (A.readT (q : Int) p = ⟨#[]⟩) := by unfold Hid; rw [e2.out, E1.out]; rfl
        clear hget e1 e2 ht
        generalize S'.n = n at *
        go_wp2
        go_ret2
        exact ⟨ρ', S', ret_si E2.out.symm E1.out.symm, T.out⟩

end Go.Proofs.YtaelaldmibgibaaGreatDoor

namespace Go.Proofs.YtaelaldmibgibaaGreatDoor
open Go.RowKit

def tmSet (q : Nat) (x : Int) (s : SP) : SP := { s with tm := s.tm.set q x }

theorem rowF_map (ps : List ByteArray) (l : List SP) (f : SP → SP) (h1 : ∀ s, (f s).there = s.there) (h2 : ∀ s, (f s).text = s.text) : rowF ps (l.map f) = rowF ps l := by
  unfold rowF
  induction l generalizing ps with
  | nil => simp
  | cons s l ih =>
    cases ps with
    | nil => simp
    | cons p ps =>
      simp only [List.map_cons, List.zip_cons_cons, List.filter_cons, h1]
      by_cases ht : s.there = true <;> simp [ht, h2, ih]

/-- behind acts and what is written into one spot -/
theorem RInv.spotSet {w : World} {b : Nat} {ρ : Nat → Nat × Nat} {S : RS} {A : Abs} (h : RInv S A) (hR : RefRep w b ρ S) (q : Nat) (hq : q < S.n) (x : Int) (hx0 : 0 ≤ x) (v v' cw : Value) (l : List SP) (c : List Int) (hx : S.rows[q]? = some (v, l)) (hc : S.coms[q]? = some (cw, c))
    (i : Nat) (p : ByteArray) (hp : S.paths[i]? = some p) (sf : SP) (htm : sf.tm = c.set q x) :
    RInv { S with coms := S.coms.set q (cw, c.set q x), rows := S.rows.set q (v', (l.map (tmSet q x)).set i sf) } (A.set q (if sf.there = true then put p sf.text (A.F q) else del p (A.F q)) x) := by
  have hrl : q < S.rows.length := by rw [hR.rowl]; exact hq
  have hcl : q < S.coms.length := by rw [hR.coml]; exact hq
  have hll := h.len q _ hx
  simp only at hll
  obtain ⟨sg, sc, g, cap, l', s, _, _, _, hx', hks, _, hA, hP, _⟩ := spot_at hR h q hq i p hp
  rw [hx] at hx'
  simp at hx'
  obtain ⟨_, rfl⟩ := hx'
  obtain ⟨hi, hpe⟩ := List.getElem?_eq_some_iff.1 hp
  have key : ∀ r y, (S.rows.set q (v', (l.map (tmSet q x)).set i sf))[r]? = some y → (r = q ∧ y = (v', (l.map (tmSet q x)).set i sf)) ∨ (r ≠ q ∧ S.rows[r]? = some y) := by
    intro r y hy
    by_cases e : r = q
    · subst e
      simp [hrl] at hy
      exact .inl ⟨rfl, hy.symm⟩
    · rw [List.getElem?_set_ne (Ne.symm e)] at hy
      exact .inr ⟨e, hy⟩
  refine ⟨h.n, h.sorted, ?_, ?_, ?_, ?_⟩
  · intro r y hy
    rcases key r y hy with ⟨rfl, rfl⟩ | ⟨_, hy'⟩
    · simp [hll]
    · exact h.len r y hy'
  · intro r vv ll hy
    rcases key r _ hy with ⟨rfl, e⟩ | ⟨hne, hy'⟩
    · simp at e
      obtain ⟨rfl, rfl⟩ := e
      have e1 : S.paths = S.paths.take i ++ p :: S.paths.drop (i + 1) := by rw [← hpe, ← List.drop_eq_getElem_cons hi, List.take_append_drop]
      have e2 : (l.map (tmSet r x)).set i sf = (l.take i).map (tmSet r x) ++ sf :: (l.drop (i + 1)).map (tmSet r x) := by
        rw [List.set_eq_take_append_cons_drop, if_pos (by rw [List.length_map]; omega), List.map_take, List.map_drop]
      have e3 := rowF_split (S.paths.take i) (S.paths.drop (i + 1)) p ((l.take i).map (tmSet r x)) ((l.drop (i + 1)).map (tmSet r x)) sf (by rw [List.length_map, List.length_take, List.length_take]; omega)
      rw [← e1, ← e2, rowF_map _ _ (tmSet r x) (fun _ => rfl) (fun _ => rfl), rowF_map _ _ (tmSet r x) (fun _ => rfl) (fun _ => rfl)] at e3
      show (A.set r _ x).F r = rowF S.paths _
      rw [e3]
      simp only [Abs.set, if_true]
      rw [hA]
      by_cases ht : sf.there = true
      · rw [if_pos ht, hP.put]
        unfold rowM
        rw [if_pos ht]
        simp
      · rw [if_neg ht, hP.del]
        unfold rowM
        rw [if_neg ht]
        simp
    · show (A.set q _ x).F r = rowF S.paths ll
      simp only [Abs.set]
      rw [if_neg hne]
      exact h.files r vv ll hy'
  · intro r hr
    by_cases e : r = q
    · subst e
      have hcn : c.length = S.n := (hR.com r _ hc).2.1
      simp only [Abs.set, RS.count, List.getElem?_set, if_true, hcl]
      refine ⟨?_, hx0⟩
      simp [List.getD_eq_getElem?_getD, hcn, hq]
    · have := h.cnt r hr
      simp only [Abs.set]
      rw [if_neg e]
      unfold RS.count at *
      rw [List.getElem?_set_ne (Ne.symm e)]
      exact this
  · intro r vv ll cw' c' hy hc' t ht
    rcases key r _ hy with ⟨rfl, e⟩ | ⟨hne, hy'⟩
    · simp at e
      obtain ⟨rfl, rfl⟩ := e
      simp [hcl] at hc'
      obtain ⟨rfl, rfl⟩ := hc'
      rcases List.mem_or_eq_of_mem_set ht with ht | rfl
      · rw [List.mem_map] at ht
        obtain ⟨u, hu, rfl⟩ := ht
        simp only [tmSet]
        rw [h.tm r _ l _ _ hx hc u hu]
      · exact htm
    · simp only at hc'
      rw [List.getElem?_set_ne (Ne.symm hne)] at hc'
      exact h.tm r vv ll cw' c' hy' hc' t ht

theorem heap_set_congr {w w' : World} {k : Nat} (a : Addr) (v : Value) (h : w.heap[k]? = w'.heap[k]?) : (w.setCell a v).heap[k]? = (w'.setCell a v).heap[k]? := by
  simp only [World.setCell, Array.getElem?_modify, h]
/-- stores into two blocks: in whatever order -/
theorem heap_set_swap (w : World) (a b : Addr) (u v : Value) (h : a.block ≠ b.block) (k : Nat) : ((w.setCell a u).setCell b v).heap[k]? = ((w.setCell b v).setCell a u).heap[k]? := by
  by_cases e : k = a.block
  · subst e
    rw [heap_set_other h]
    exact heap_set_congr a u (heap_set_other h).symm
  · rw [heap_set_other (a := a) e]
    by_cases e' : k = b.block
    · subst e'
      exact heap_set_congr b v (heap_set_other e)
    · rw [heap_set_other e', heap_set_other e', heap_set_other e]

/-- the spot's list of changes is a new one, with one number in it written -/
theorem RefRep.newCh {w : World} {b : Nat} {ρ : Nat → Nat × Nat} {S : RS} (h : RefRep w b ρ S) (q : Nat) (_hq : q < S.n) (g cap : Nat) (l : List SP) (hx : S.rows[q]? = some (.slice (some ⟨g, 0, none⟩) l.length cap, l)) (i : Nat) (s : SP) (hs : l[i]? = some s)
    (gc cc : Nat) (ch : List Int) (hch : intRow w (.slice (some ⟨gc, 0, none⟩) S.n cc) ch) (hchl : ch.length = S.n) (hfree : (ρ gc).1 = 0) (hgl : gc < w.heap.size) (x : Int) :
    RefRep ((w.setCell ⟨g, i * 6 + 4, none⟩ (.slice (some ⟨gc, 0, none⟩) S.n cc)).setCell ⟨gc, q, none⟩ (.int .i64 x)) b (Go.Proofs.YtaelaldmibgibaaGreatDoor.upd ρ gc (6, 0))
      { S with rows := S.rows.set q (.slice (some ⟨g, 0, none⟩) l.length cap, l.set i { s with chv := .slice (some ⟨gc, 0, none⟩) S.n cc, ch := ch.set q x }) } := by
  have hρ : ρ g = (5, q) := (h.row q _ hx).2 g rfl
  have hgg : g ≠ gc := by rintro rfl; rw [hρ] at hfree; simp at hfree
  have h1 : RefRep (w.setCell ⟨gc, q, none⟩ (.int .i64 x)) b ρ S := h.keep (by rw [size_setCell]; omega) (fun k hk => heap_set_other (by simp only; rintro rfl; exact hk hfree))
  have h2 := h1.upd (6, 0) hfree (by rw [size_setCell]; exact hgl)
  have hsp := h2.sp q _ hx s (List.mem_of_getElem? hs)
  have h3 := h2.setSpot q g cap l hx i s { s with chv := .slice (some ⟨gc, 0, none⟩) S.n cc, ch := ch.set q x } hs 4 (.slice (some ⟨gc, 0, none⟩) S.n cc) (by omega) rfl
    ⟨intRow_set hch q x, by simpa using hchl, by intro k hk; simp [Value.ownBlock] at hk; subst hk; simp [Go.Proofs.YtaelaldmibgibaaGreatDoor.upd], hsp.tm, hsp.tml, hsp.tmr⟩
  exact h3.keep (by rw [size_setCell, size_setCell, size_setCell, size_setCell]; omega) (fun k _ => heap_set_swap w _ _ _ _ hgg k)

end Go.Proofs.YtaelaldmibgibaaGreatDoor

namespace Go.Proofs.YtaelaldmibgibaaGreatDoor
open Go.RowKit

theorem After.chain {w w1 w2 : World} {b : Nat} {ρ ρ1 ρ2 : Nat → Nat × Nat} {S S1 S2 : RS} {A A2 : Abs} (h : After w b ρ S A w1 ρ1 S1) (hR : RefRep w2 b ρ2 S2) (hI : RInv S2 A2) (hf : Fr (fun k => (ρ1 k).1 ≠ 0) w1 w2) (hg : Grow w1 ρ1 ρ2) (hn : S2.n = S1.n) (hl : S2.paths = S1.paths) :
    After w b ρ S A2 w2 ρ2 S2 :=
  ⟨hR, hI, h.grow.trans h.fr.size hg, h.fr.trans' hf (fun i hi hk => by rcases h.grow i hk with q | q; exact q; omega), hn.trans h.n, by rw [hl]; exact h.len, by rw [hl]; exact h.sub⟩

/-- the cells of a spot, and that they may be written -/
structure Six (w : World) (g i n : Nat) (s : SP) (gc cc gt ct : Nat) : Prop where
  c0 : w.cell? ⟨g, i * 6, none⟩ = some (.bool s.there)
  c1 : w.cell? ⟨g, i * 6 + 1, none⟩ = some (.string s.text)
  c2 : w.cell? ⟨g, i * 6 + 2, none⟩ = some (.int .i64 s.by_)
  c3 : w.cell? ⟨g, i * 6 + 3, none⟩ = some (.int .i64 s.num)
  c4 : w.cell? ⟨g, i * 6 + 4, none⟩ = some (.slice (some ⟨gc, 0, none⟩) n cc)
  c5 : w.cell? ⟨g, i * 6 + 5, none⟩ = some (.slice (some ⟨gt, 0, none⟩) n ct)
  fz : ∀ k, w.frozen? ⟨g, k, none⟩ = false
  ch : s.chv = .slice (some ⟨gc, 0, none⟩) n cc
  tm : s.tmv = .slice (some ⟨gt, 0, none⟩) n ct
theorem RefRep.sixth {w : World} {b : Nat} {ρ : Nat → Nat × Nat} {S : RS} (h : RefRep w b ρ S) (r g cap : Nat) (l : List SP) (hx : S.rows[r]? = some (.slice (some ⟨g, 0, none⟩) l.length cap, l)) (k : Nat) (s : SP) (hk : l[k]? = some s) :
    ∃ gc cc gt ct, Six w g k S.n s gc cc gt ct := by
  obtain ⟨g', cap', gc, cc, gt, ct, ev, _, ec, et, q0, q1, q2, q3, q4, q5⟩ := h.six r _ l hx k s hk
  simp at ev
  obtain ⟨rfl, rfl⟩ := ev
  obtain ⟨_, _, e, _, _, _, hf⟩ := spot_cells (h.row r _ hx).1 k s hk
  simp at e
  obtain ⟨rfl, rfl⟩ := e
  exact ⟨gc, cc, gt, ct, q0, q1, q2, q3, q4, q5, hf, ec, et⟩

theorem RefRep.access {w : World} {b : Nat} {ρ : Nat → Nat × Nat} {S : RS} (h : RefRep w b ρ S) (q : Nat) (hq : q < S.n) (g cap : Nat) (l : List SP) (hx : S.rows[q]? = some (.slice (some ⟨g, 0, none⟩) l.length cap, l)) (k : Nat) (s : SP) (hk : l[k]? = some s) :
    ∃ sg sc gc cc gt ct, w.cell? ⟨b, 3, none⟩ = some (.slice (some ⟨sg, 0, none⟩) S.n sc) ∧ w.cell? ⟨sg, q, none⟩ = some (.slice (some ⟨g, 0, none⟩) l.length cap) ∧ Six w g k S.n s gc cc gt ct := by
  obtain ⟨sg, sc, v, l', es, hs, hx', _⟩ := h.theRow q hq
  rw [hx] at hx'
  simp at hx'
  obtain ⟨rfl, rfl⟩ := hx'
  obtain ⟨gc, cc, gt, ct, six⟩ := h.sixth q g cap l hx k s hk
  exact ⟨sg, sc, gc, cc, gt, ct, by rw [h.c3, es], hs, six⟩

theorem row_set {S : RS} {q : Nat} (hq : q < S.rows.length) (y : Value × List SP) : ({ S with rows := S.rows.set q y } : RS).rows[q]? = some y := by simp [hq]

/-- behind acts: the row of the replica, and its spot -/
theorem acted_row {S : RS} {q i g cap : Nat} {l : List SP} {s : SP} {x : Int} {cw : Value} {cl : List Int} (hq : q < S.rows.length) (hk : l[i]? = some s) :
    ({ S with coms := S.coms.set q (cw, cl.set q x), rows := S.rows.set q (.slice (some ⟨g, 0, none⟩) l.length cap, l.map (fun s => { s with tm := s.tm.set q x })) } : RS).rows[q]? = some (.slice (some ⟨g, 0, none⟩) (l.map (tmSet q x)).length cap, l.map (tmSet q x)) ∧
      (l.map (tmSet q x))[i]? = some (tmSet q x s) := by
  refine ⟨?_, ?_⟩
  · simp only [List.getElem?_set, hq, if_true, List.length_map]; rfl
  · rw [List.getElem?_map, hk]; rfl

/-- the last steps of Write: the text, a new list of changes, the event in it -/
theorem write_tail {w2 w4 : World} {b : Nat} {ρ : Nat → Nat × Nat} {S2 : RS} (hR2 : RefRep w2 b ρ S2) (q : Nat) (hq : q < S2.n) (g cap : Nat) (l : List SP) (hx : S2.rows[q]? = some (.slice (some ⟨g, 0, none⟩) l.length cap, l)) (i : Nat) (s : SP) (hk : l[i]? = some s) (t : ByteArray)
    (hb : Below (w2.setCell ⟨g, i * 6 + 1, none⟩ (.string t)).heap.size (w2.setCell ⟨g, i * 6 + 1, none⟩ (.string t)) w4) (gc cc : Nat) (ch : List Int) (hch : w4.ownsRow (w2.setCell ⟨g, i * 6 + 1, none⟩ (.string t)).heap.size 3 1 (.slice (some ⟨gc, 0, none⟩) ch.length cc) ch.length (ivs ch)) (hchl : ch.length = S2.n) (x : Int) :
    RefRep ((w4.setCell ⟨g, i * 6 + 4, none⟩ (.slice (some ⟨gc, 0, none⟩) S2.n cc)).setCell ⟨gc, q, none⟩ (.int .i64 x)) b (upd ρ gc (6, 0))
      { S2 with rows := S2.rows.set q (.slice (some ⟨g, 0, none⟩) l.length cap, l.set i { s with text := t, chv := .slice (some ⟨gc, 0, none⟩) S2.n cc, ch := ch.set q x }) } ∧
    Fr (fun k => (ρ k).1 ≠ 0) w2 ((w4.setCell ⟨g, i * 6 + 4, none⟩ (.slice (some ⟨gc, 0, none⟩) S2.n cc)).setCell ⟨gc, q, none⟩ (.int .i64 x)) ∧ Grow w2 ρ (upd ρ gc (6, 0)) := by
  have hql : q < S2.rows.length := by rw [hR2.rowl]; exact hq
  have hρ : ρ g = (5, q) := (hR2.row q _ hx).2 g rfl
  have hi : i < l.length := (List.getElem?_eq_some_iff.1 hk).1
  obtain ⟨hg1, hg2⟩ := World.ownsRow.lt hch gc rfl
  have hz : (w2.setCell ⟨g, i * 6 + 1, none⟩ (.string t)).heap.size = w2.heap.size := size_setCell _ _ _
  have hsp := hR2.sp q _ hx s (List.mem_of_getElem? hk)
  have R3 := hR2.setSpot q g cap l hx i s { s with text := t } hk 1 (.string t) (by omega) rfl ⟨hsp.ch, hsp.chl, hsp.chr, hsp.tm, hsp.tml, hsp.tmr⟩
  have R4 := R3.below hb
  have hx3 := row_set (S := S2) hql (.slice (some ⟨g, 0, none⟩) l.length cap, l.set i { s with text := t })
  have hx3' : ({ S2 with rows := S2.rows.set q (.slice (some ⟨g, 0, none⟩) l.length cap, l.set i { s with text := t }) } : RS).rows[q]? = some (.slice (some ⟨g, 0, none⟩) (l.set i { s with text := t }).length cap, l.set i { s with text := t }) := by
    rw [hx3, List.length_set]
  have hfree : (ρ gc).1 = 0 := hR2.free (by omega)
  have R5 := R4.newCh q hq g cap _ hx3' i { s with text := t } (by simp [hi]) gc cc ch (by unfold intRow; rw [← hchl]; exact ownsRow_base hch (fun _ _ => Nat.zero_le _)) hchl hfree hg2 x
  refine ⟨?_, ?_, (Grow.refl _ _).upd (by omega) _⟩
  · have e : ({ ({ S2 with rows := S2.rows.set q (.slice (some ⟨g, 0, none⟩) l.length cap, l.set i { s with text := t }) } : RS) with rows := ({ S2 with rows := S2.rows.set q (.slice (some ⟨g, 0, none⟩) l.length cap, l.set i { s with text := t }) } : RS).rows.set q (.slice (some ⟨g, 0, none⟩) (l.set i { s with text := t }).length cap, (l.set i { s with text := t }).set i { ({ s with text := t } : SP) with chv := .slice (some ⟨gc, 0, none⟩) S2.n cc, ch := ch.set q x }) } : RS) =
        { S2 with rows := S2.rows.set q (.slice (some ⟨g, 0, none⟩) l.length cap, l.set i { s with text := t, chv := .slice (some ⟨gc, 0, none⟩) S2.n cc, ch := ch.set q x }) } := by
      simp only [List.set_set, List.length_set]
    rw [← e]
    exact R5
  · have f1 : Fr (fun k => (ρ k).1 ≠ 0) w2 (w2.setCell ⟨g, i * 6 + 1, none⟩ (.string t)) := (Fr.refl _ _).setCell (.inl (by simp only; rw [hρ]; simp)) _
    have f2 := f1.trans' (Fr.of_below (S := fun k => (ρ k).1 ≠ 0) hb) (fun _ _ h => h)
    exact (f2.setCell (.inl (by simp only; rw [hρ]; simp)) _).setCell (.inr (by simp only; omega)) _


/-- the first steps of Write where the file was not there -/
theorem write_new {w2 w4 : World} {b : Nat} {ρ : Nat → Nat × Nat} {S2 : RS} (hR2 : RefRep w2 b ρ S2) (q : Nat) (hq : q < S2.n) (g cap : Nat) (l : List SP) (hx : S2.rows[q]? = some (.slice (some ⟨g, 0, none⟩) l.length cap, l)) (i : Nat) (s : SP) (hk : l[i]? = some s) (y x : Int)
    (hb : Below (((w2.setCell ⟨g, i * 6, none⟩ (.bool true)).setCell ⟨g, i * 6 + 2, none⟩ (.int .i64 y)).setCell ⟨g, i * 6 + 3, none⟩ (.int .i64 x)).heap.size (((w2.setCell ⟨g, i * 6, none⟩ (.bool true)).setCell ⟨g, i * 6 + 2, none⟩ (.int .i64 y)).setCell ⟨g, i * 6 + 3, none⟩ (.int .i64 x)) w4)
    (gc cc : Nat) (hg1 : w2.heap.size ≤ gc) (ch : List Int) (base : Nat) (hch : w4.ownsRow base 3 1 (.slice (some ⟨gc, 0, none⟩) S2.n cc) S2.n (ivs ch)) (hchl : ch.length = S2.n) :
    RefRep (w4.setCell ⟨g, i * 6 + 4, none⟩ (.slice (some ⟨gc, 0, none⟩) S2.n cc)) b (upd ρ gc (6, 0))
      { S2 with rows := S2.rows.set q (.slice (some ⟨g, 0, none⟩) l.length cap, l.set i { s with there := true, by_ := y, num := x, chv := .slice (some ⟨gc, 0, none⟩) S2.n cc, ch := ch }) } ∧
    Fr (fun k => (ρ k).1 ≠ 0) w2 (w4.setCell ⟨g, i * 6 + 4, none⟩ (.slice (some ⟨gc, 0, none⟩) S2.n cc)) ∧ Grow w2 ρ (upd ρ gc (6, 0)) := by
  have hql : q < S2.rows.length := by rw [hR2.rowl]; exact hq
  have hρ : ρ g = (5, q) := (hR2.row q _ hx).2 g rfl
  have hi : i < l.length := (List.getElem?_eq_some_iff.1 hk).1
  obtain ⟨_, hg2⟩ := World.ownsRow.lt hch gc rfl
  have hsp := hR2.sp q _ hx s (List.mem_of_getElem? hk)
  have A1 := hR2.setSpot q g cap l hx i s { s with there := true } hk 0 (.bool true) (by omega) rfl ⟨hsp.ch, hsp.chl, hsp.chr, hsp.tm, hsp.tml, hsp.tmr⟩
  have x1 : ({ S2 with rows := S2.rows.set q (.slice (some ⟨g, 0, none⟩) l.length cap, l.set i { s with there := true }) } : RS).rows[q]? = some (.slice (some ⟨g, 0, none⟩) (l.set i { s with there := true }).length cap, l.set i { s with there := true }) := by
    rw [List.length_set]; exact row_set hql _
  have k1 : (l.set i { s with there := true })[i]? = some { s with there := true } := by simp [hi]
  have s1 := A1.sp q _ x1 _ (List.mem_of_getElem? k1)
  have A2 := A1.setSpot q g cap _ x1 i _ { s with there := true, by_ := y } k1 2 (.int .i64 y) (by omega) rfl ⟨s1.ch, s1.chl, s1.chr, s1.tm, s1.tml, s1.tmr⟩
  simp only [List.set_set, List.length_set] at A2
  have x2 : ({ S2 with rows := S2.rows.set q (.slice (some ⟨g, 0, none⟩) l.length cap, l.set i { s with there := true, by_ := y }) } : RS).rows[q]? = some (.slice (some ⟨g, 0, none⟩) (l.set i { s with there := true, by_ := y }).length cap, l.set i { s with there := true, by_ := y }) := by
    rw [List.length_set]; exact row_set hql _
  have k2 : (l.set i { s with there := true, by_ := y })[i]? = some { s with there := true, by_ := y } := by simp [hi]
  have s2 := A2.sp q _ x2 _ (List.mem_of_getElem? k2)
  have A3 := A2.setSpot q g cap _ x2 i _ { s with there := true, by_ := y, num := x } k2 3 (.int .i64 x) (by omega) rfl ⟨s2.ch, s2.chl, s2.chr, s2.tm, s2.tml, s2.tmr⟩
  simp only [List.set_set, List.length_set] at A3
  have hfree : (ρ gc).1 = 0 := hR2.free hg1
  have A4 := (A3.below hb).upd (6, 0) hfree hg2
  have x3 : ({ S2 with rows := S2.rows.set q (.slice (some ⟨g, 0, none⟩) l.length cap, l.set i { s with there := true, by_ := y, num := x }) } : RS).rows[q]? = some (.slice (some ⟨g, 0, none⟩) (l.set i { s with there := true, by_ := y, num := x }).length cap, l.set i { s with there := true, by_ := y, num := x }) := by
    rw [List.length_set]; exact row_set hql _
  have k3 : (l.set i { s with there := true, by_ := y, num := x })[i]? = some { s with there := true, by_ := y, num := x } := by simp [hi]
  have s3 := A4.sp q _ x3 _ (List.mem_of_getElem? k3)
  have A5 := A4.setSpot q g cap _ x3 i _ { s with there := true, by_ := y, num := x, chv := .slice (some ⟨gc, 0, none⟩) S2.n cc, ch := ch } k3 4 (.slice (some ⟨gc, 0, none⟩) S2.n cc) (by omega) rfl
    ⟨by unfold intRow; rw [hchl]; exact ownsRow_base hch (fun _ _ => Nat.zero_le _), hchl, by intro k hk; simp [Value.ownBlock] at hk; subst hk; simp [upd], s3.tm, s3.tml, s3.tmr⟩
  simp only [List.set_set, List.length_set] at A5
  refine ⟨A5, ?_, (Grow.refl _ _).upd hg1 _⟩
  have f1 : Fr (fun k => (ρ k).1 ≠ 0) w2 (((w2.setCell ⟨g, i * 6, none⟩ (.bool true)).setCell ⟨g, i * 6 + 2, none⟩ (.int .i64 y)).setCell ⟨g, i * 6 + 3, none⟩ (.int .i64 x)) :=
    (((Fr.refl _ _).setCell (.inl (by simp only; rw [hρ]; simp)) _).setCell (.inl (by simp only; rw [hρ]; simp)) _).setCell (.inl (by simp only; rw [hρ]; simp)) _
  exact (f1.trans' (Fr.of_below (S := fun k => (ρ k).1 ≠ 0) hb) (fun _ _ h => h)).setCell (.inl (by simp only; rw [hρ]; simp)) _

/-- all of it together: what Write leaves -/
theorem write_fin {w w1 w2 wf : World} {b : Nat} {ρ ρ1 ρ2 : Nat → Nat × Nat} {S S1 : RS} {A : Abs} (T : After w b ρ S A w1 ρ1 S1) (q : Nat) (hq : q < S1.n) (g cap : Nat) (l : List SP) (hx : S1.rows[q]? = some (.slice (some ⟨g, 0, none⟩) l.length cap, l)) (i : Nat) (s : SP) (hk : l[i]? = some s)
    (p : ByteArray) (hp : S1.paths[i]? = some p) (x : Int) (hx0 : 0 ≤ x) (cw : Value) (cl : List Int) (hc : S1.coms[q]? = some (cw, cl)) (hF2 : Fr (fun k => (ρ1 k).1 ≠ 0) w1 w2) (sf : SP) (htm : sf.tm = s.tm.set q x)
    (hR : RefRep wf b ρ2 { S1 with coms := S1.coms.set q (cw, cl.set q x), rows := S1.rows.set q (.slice (some ⟨g, 0, none⟩) l.length cap, (l.map (tmSet q x)).set i sf) }) (hF : Fr (fun k => (ρ1 k).1 ≠ 0) w2 wf) (hG : Grow w2 ρ1 ρ2) :
    After w b ρ S (A.set q (if sf.there = true then put p sf.text (A.F q) else del p (A.F q)) x) wf ρ2 { S1 with coms := S1.coms.set q (cw, cl.set q x), rows := S1.rows.set q (.slice (some ⟨g, 0, none⟩) l.length cap, (l.map (tmSet q x)).set i sf) } := by
  have hs : s.tm = cl := T.inv.tm q _ l cw cl hx hc s (List.mem_of_getElem? hk)
  exact T.chain hR (T.inv.spotSet T.rep q hq x hx0 _ _ cw l cl hx hc i p hp sf (by rw [htm, hs])) (hF2.trans hF) ((Grow.refl _ _).trans hF2.size hG) rfl rfl

theorem write_put {w w1 w2 wf : World} {b : Nat} {ρ ρ1 ρ2 : Nat → Nat × Nat} {S S1 : RS} {A A' : Abs} (T : After w b ρ S A w1 ρ1 S1) (q : Nat) (hq : q < S1.n) (g cap : Nat) (l : List SP) (hx : S1.rows[q]? = some (.slice (some ⟨g, 0, none⟩) l.length cap, l)) (i : Nat) (s : SP) (hk : l[i]? = some s)
    (p t : ByteArray) (hp : S1.paths[i]? = some p) (x : Int) (hx0 : 0 ≤ x) (cw : Value) (cl : List Int) (hc : S1.coms[q]? = some (cw, cl)) (hF2 : Fr (fun k => (ρ1 k).1 ≠ 0) w1 w2) (sf : SP) (htm : sf.tm = s.tm.set q x) (hth : sf.there = true) (hte : sf.text = t) (hA' : A' = A.set q (put p t (A.F q)) x)
    (hR : RefRep wf b ρ2 { S1 with coms := S1.coms.set q (cw, cl.set q x), rows := S1.rows.set q (.slice (some ⟨g, 0, none⟩) l.length cap, (l.map (tmSet q x)).set i sf) }) (hF : Fr (fun k => (ρ1 k).1 ≠ 0) w2 wf) (hG : Grow w2 ρ1 ρ2) :
    ∃ ρ' S', After w b ρ S A' wf ρ' S' := by
  have := write_fin T q hq g cap l hx i s hk p hp x hx0 cw cl hc hF2 sf htm hR hF hG
  rw [if_pos hth, hte, ← hA'] at this
  exact ⟨_, _, this⟩

theorem writeE_ok {A : Abs} {q : Nat} {p t : ByteArray} (ho : A.out (q : Int) = false) (hp : pathOk p = true) (ht : ¬ 60 < t.size) :
    A.writeE q p t = if 1000000000 ≤ A.c q ∨ (get p (A.F q) = none ∧ 20 ≤ (A.F q).length) then 5 else 0 := by
  unfold Abs.writeE
  rw [if_neg (by rw [ho]; simp), if_neg (by rw [hp]; simp), if_neg ht, Int.toNat_natCast]

set_option maxHeartbeats 1000000 in
theorem refWrite_any (b : Nat) (r : Int) (p t : ByteArray) (ρ : Nat → Nat × Nat) (S : RS) (A : Abs) (w : World) (h : RefRep w b ρ S) (hI : RInv S A) (hm : S.paths.length ≤ 100000000) (hs : p.size ≤ maxLen) (hts : t.size ≤ maxLen) :
    Calls Tryz.prog 83 #[.pointer (some ⟨b, 0, none⟩), .int .i64 r, .string p, .string t] w fun e w' => ∃ ρ' S', e = .returned (.int .i64 (A.writeE r p t)) ∧ After w b ρ S (A.write r p t) w' ρ' S' := by
  unfold maxLen at hts
  cases ho : A.out r with
  | true =>
    have e1 : A.writeE r p t = 1 := by unfold Abs.writeE; rw [if_pos ho]
    have e2 : A.write r p t = A := by unfold Abs.write; rw [e1]; rfl
    rw [e1, e2]
    have H := hide (After.refl h hI)
    have C := hide (asked_bad b r p ρ S A w h hI hs ho)
    clear h hI e1 e2
    go_enter Tryz.func83, Tryz.ntmps83
    go_wp2_with (go_at_call 150; refine C.out.mono ?_; rintro e w' ⟨rfl, rfl⟩)
    go_ret
    exact ⟨ρ, S, rfl, H.out⟩
  | false =>
    cases hp : pathOk p with
    | false =>
      have e1 : A.writeE r p t = 2 := by unfold Abs.writeE; rw [if_neg (by rw [ho]; simp), if_pos hp]
      have e2 : A.write r p t = A := by unfold Abs.write; rw [e1]; rfl
      rw [e1, e2]
      have H := hide (After.refl h hI)
      have C := hide (asked_path b r p ρ S A w h hI hs ho hp)
      clear h hI e1 e2
      go_enter Tryz.func83, Tryz.ntmps83
      go_wp2_with (go_at_call 150; refine C.out.mono ?_; rintro e w' ⟨rfl, rfl⟩)
      go_ret
      exact ⟨ρ, S, rfl, H.out⟩
    | true =>
      have C := hide (asked_ok b r p ρ S A w h hI hs ho hp)
      by_cases hlong : 60 < t.size
      · have e1 : A.writeE r p t = 3 := by unfold Abs.writeE; rw [if_neg (by rw [ho]; simp), if_neg (by rw [hp]; simp), if_pos hlong]
        have e2 : A.write r p t = A := by unfold Abs.write; rw [e1]; rfl
        rw [e1, e2]
        have H := hide (After.refl h hI)
        clear h hI e1 e2
        go_enter Tryz.func83, Tryz.ntmps83
        go_wp2_with (go_at_call 150; refine C.out.mono ?_; rintro e w' ⟨rfl, rfl⟩)
        go_ret
        exact ⟨ρ, S, rfl, H.out⟩
      · have D := hide (place_any b p ρ S A w h hI hm)
        have HPO := hide hp
        obtain ⟨q, rfl, hq⟩ := out_nat ho
        have e1 := hide (writeE_ok ho hp hlong)
        have hqn : q < S.n := by rw [← hI.n]; exact hq
        clear h hI ho hp hq
        go_enter Tryz.func83, Tryz.ntmps83
        go_wp2_with fail
        refine C.out.mono ?_
        rintro e w ⟨rfl, rfl⟩
        go_wp2_with fail
        refine D.out.mono ?_
        rintro e w1 ⟨ρ', S', i, rfl, hR, hI', hG, hF, hpi, hn', hl', hsub⟩
        obtain ⟨sg, sc, g, cap, l, s, es, h3, hsr, hx, hks, hll, hA, hP, hg, hc, _⟩ := spot_at hR hI' q (by omega) i p hpi
        have hget := hP.get
        rw [← hA, rowM_head] at hget
        have c0 : w1.cell? ⟨g, i * 6, none⟩ = some (.bool s.there) := by simpa [SP.cells] using hc 0 (by omega)
        have hil : i < l.length := (List.getElem?_eq_some_iff.1 hks).1
        have hn6 := hR.n6
        have T := hide (⟨hR, hI', hG, hF, hn', hl', fun q hq => (hsub q hq).imp id (fun e => by rw [e]; exact HPO.out)⟩ : After w b ρ S A w1 ρ' S')
        have hqn' : q < S'.n := by omega
        have hcnt := hI'.cnt q hqn'
        have hfl : (A.F q).length = filesOf l := by rw [hI'.files q _ l hx, rowF_length _ _ (by omega)]
        have HX := hide hx
        have HKS := hide hks
        have HPI := hide hpi
        have HGET := hide hget
        have HFL := hide hfl
        have SP1 := hide (spent_any b q ρ' S' w1 hR hqn')
        have FI1 := hide (files_any b q ρ' S' w1 hR hqn')
        have AC1 := hide (acts_any b q ρ' S' w1 hR hqn' (by rw [← hcnt.1]; exact hcnt.2))
        rw [← hcnt.1] at SP1 AC1
        have HC0 := hide hcnt.2
        clear hks hx es hA hP hc hpi hG hF hl' hll hI' hR hn' hget hcnt hfl
        by_cases hsp : 1000000000 ≤ A.c q
        · have E1 : Hid (A.writeE q p t = 5) := by unfold Hid; rw [e1.out, if_pos (.inl hsp)]
          have E2 : Hid (A.write q p t = A) := by unfold Hid Abs.write; rw [E1.out]; rfl
          have hd : decide (1000000000 ≤ A.c q) = true := by simp [hsp]
          rw [hd] at SP1
          clear hd e1
          generalize S'.n = n at *
          go_wp2_with (go_at_call 151; refine SP1.out.mono ?_; rintro e w' ⟨rfl, rfl⟩)
          go_ret
          exact ⟨ρ', S', ret_int (E1.out.symm), by rw [E2.out]; exact T.out⟩
        · have hd : decide (1000000000 ≤ A.c q) = false := by simp; omega
          rw [hd] at SP1
          clear hd
          cases ht : s.there with
          | true =>
            rw [ht] at c0 HGET
            rw [if_pos rfl] at HGET
            have E1 : Hid (A.writeE q p t = 0) := by unfold Hid; rw [e1.out, if_neg (by rintro (q1 | ⟨q2, _⟩); exact hsp q1; rw [HGET.out] at q2; cases q2)]
            have E2 : Hid (A.write q p t = A.set q (put p t (A.F q)) (A.c q + 1)) := by unfold Hid Abs.write; rw [E1.out, Int.toNat_natCast]; rfl
            clear e1 HGET
            have HT := hide ht
            clear ht
            have hsp' : A.c q < 1000000000 := by omega
            have HCX := hide (rfl : A.c q + 1 = A.c q + 1)
            go_wp2_with fail
            refine SP1.out.mono ?_
            rintro e w1 ⟨rfl, rfl⟩
            go_wp2_with fail
            refine (AC1.out hsp').mono ?_
            rintro e w2 ⟨cw, cl, v, l0, hxc, hxr, rfl, hR2, hF2, hz2⟩
            rw [HX.out] at hxr
            simp at hxr
            obtain ⟨rfl, rfl⟩ := hxr
            have hql : q < S'.rows.length := (List.getElem?_eq_some_iff.1 HX.out).1
            obtain ⟨hx2, hk2⟩ := acted_row (x := A.c q + 1) (cw := cw) (cl := cl) hql HKS.out
            obtain ⟨sg2, sc2, gc0, cc0, gt0, ct0, b3, bs, six⟩ := hR2.access q hqn' g cap _ hx2 i _ hk2
            have hsp2 := hR2.sp q _ hx2 _ (List.mem_of_getElem? hk2)
            have hρg : ρ' g = (5, q) := (hR2.row q _ hx2).2 g rfl
            have HCH := hide (ownsRow_far (a := ⟨g, i * 6 + 1, none⟩) (u := .string t) hsp2.ch hsp2.chr hρg (by simp))
            rw [six.ch] at HCH
            have hchl : s.ch.length = S'.n := hsp2.chl
            have hn1 : 1 ≤ S'.n := hR2.n1
            have hgl : g < w2.heap.size := hR2.lt g (by rw [hρg]; simp)
            have m1 := six.c1
            have m4 := six.c4
            have mf := six.fz
            have R2 := hide hR2
            have TL := hide (fun w4 hb gc cc ch hch hchl => write_tail (w4 := w4) hR2 q hqn' g cap _ hx2 i _ hk2 t hb gc cc ch hch hchl (A.c q + 1))
            have F2 := hide hF2
            have XC := hide hxc
            have X2 := hide hx2
            have K2 := hide hk2
            have CL := hide hchl
            clear hR2 hF2 hxc hx2 hk2 hsp2 six hz2 hchl
            generalize hN : S'.n = n at *
            have HN := hide hN
            clear hN
            generalize hX : A.c q + 1 = x at *
            have HX1 := hide hX
            clear hX
            rw [List.length_map] at bs
            go_wp2_with fail
            refine (copied_form _ s.ch _ HCH.out (by rw [CL.out]; omega) (by rw [CL.out]; omega)).mono ?_
            rintro e w4 ⟨gc, cc, rfl, ho4, hg4, hl4, hb4⟩
            have TT := hide (TL.out w4 hb4 gc cc s.ch ho4 (by rw [CL.out]))
            rw [CL.out] at ho4 ⊢
            have hne : gc ≠ g := by rw [size_setCell] at hg4; omega
            have n4 : w4.cell? ⟨g, i * 6 + 4, none⟩ = some (.slice (some ⟨gc0, 0, none⟩) n cc0) := by rw [hb4.cell (by rw [size_setCell]; exact hgl)]; exact (World.cell?_setCell_other w2 ⟨g, i * 6 + 1, none⟩ ⟨g, i * 6 + 4, none⟩ (.string t) (by simp)).trans m4
            have nf : w4.frozen? ⟨g, i * 6 + 4, none⟩ = false := by rw [hb4.frozen (by rw [size_setCell]; exact hgl), World.frozen?_setCell]; exact mf _
            have nq : w4.cell? ⟨gc, q, none⟩ = some (.int .i64 (s.ch.getD q 0)) := by rw [World.ownsRow.cellAt ho4 q (by omega)]; exact ivs_get _ _ (by rw [CL.out]; exact hqn')
            have nqf : w4.frozen? ⟨gc, q, none⟩ = false := World.ownsRow.frozenAt ho4 q
            generalize s.ch.getD q 0 = z at nq
            clear ho4 hg4 hl4 hb4 m1 m4 mf b3 bs HCH TL
            go_wp2
            go_ret
            have hN := HN.out
            have hX := HX1.out
            subst hN
            subst hX
            obtain ⟨RT, FT, GT⟩ := TT.out
            simp only [List.set_set, List.length_map] at RT
            obtain ⟨ρf, Sf, fin⟩ := write_put T.out q hqn' g cap l HX.out i s HKS.out p t HPI.out (A.c q + 1) (by have := HC0.out; omega) cw cl XC.out F2.out { tmSet q (A.c q + 1) s with text := t, chv := .slice (some ⟨gc, 0, none⟩) S'.n cc, ch := s.ch.set q (A.c q + 1) } rfl HT.out rfl E2.out RT FT GT
            exact ⟨ρf, Sf, ret_int E1.out.symm, fin⟩
          | false =>
            rw [ht] at c0 HGET
            rw [if_neg (by simp)] at HGET
            by_cases hfu : 20 ≤ filesOf l
            · have E1 : Hid (A.writeE q p t = 5) := by unfold Hid; rw [e1.out, if_pos (.inr ⟨HGET.out, by rw [HFL.out]; exact hfu⟩)]
              have E2 : Hid (A.write q p t = A) := by unfold Hid Abs.write; rw [E1.out]; rfl
              clear e1 HGET ht
              generalize hN : S'.n = n at *
              have HN := hide hN
              clear hN
              go_wp2_with (first | (go_at_call 151; refine SP1.out.mono ?_; rintro e w1 ⟨rfl, rfl⟩) | (go_at_call 60; refine FI1.out.mono ?_; rintro e w1 ⟨v, l0, hxr, rfl, rfl⟩; rw [HX.out] at hxr; simp at hxr; obtain ⟨rfl, rfl⟩ := hxr))
              go_ret
              exact ⟨ρ', S', ret_int (E1.out.symm), by rw [E2.out]; exact T.out⟩
            · have E1 : Hid (A.writeE q p t = 0) := by unfold Hid; rw [e1.out, if_neg (by rintro (q1 | ⟨_, q2⟩); exact hsp q1; rw [HFL.out] at q2; exact hfu q2)]
              have E2 : Hid (A.write q p t = A.set q (put p t (A.F q)) (A.c q + 1)) := by unfold Hid Abs.write; rw [E1.out, Int.toNat_natCast]; rfl
              clear e1 HGET
              have HT := hide ht
              clear ht
              have hsp' : A.c q < 1000000000 := by omega
              go_wp2_with fail
              refine SP1.out.mono ?_
              rintro e w1 ⟨rfl, rfl⟩
              go_wp2_with fail
              refine FI1.out.mono ?_
              rintro e w1 ⟨v, l0, hxr, rfl, rfl⟩
              rw [HX.out] at hxr
              simp at hxr
              obtain ⟨rfl, rfl⟩ := hxr
              go_wp2_with fail
              refine (AC1.out hsp').mono ?_
              rintro e w2 ⟨cw, cl, v, l0, hxc, hxr, rfl, hR2, hF2, hz2⟩
              rw [HX.out] at hxr
              simp at hxr
              obtain ⟨rfl, rfl⟩ := hxr
              have hql : q < S'.rows.length := (List.getElem?_eq_some_iff.1 HX.out).1
              obtain ⟨hx2, hk2⟩ := acted_row (x := A.c q + 1) (cw := cw) (cl := cl) hql HKS.out
              obtain ⟨sg2, sc2, gc0, cc0, gt0, ct0, b3, bs, six⟩ := hR2.access q hqn' g cap _ hx2 i _ hk2
              have hρg : ρ' g = (5, q) := (hR2.row q _ hx2).2 g rfl
              have hn1 : 1 ≤ S'.n := hR2.n1
              have hgl : g < w2.heap.size := hR2.lt g (by rw [hρg]; simp)
              have hbg : b ≠ g := by rintro rfl; rw [hR2.rb] at hρg; simp at hρg
              have b0 := hR2.c0
              have m0 := six.c0
              have m1 := six.c1
              have m2 := six.c2
              have m3 := six.c3
              have m4 := six.c4
              have mf := six.fz
              have NW := hide (fun w4 hb gc cc hg1 ch base hch hchl => write_new (w4 := w4) hR2 q hqn' g cap _ hx2 i _ hk2 q (A.c q + 1) hb gc cc hg1 ch base hch hchl)
              have F2 := hide hF2
              have XC := hide hxc
              have hil2 : i < (l.map (tmSet q (A.c q + 1))).length := by rw [List.length_map]; exact hil
              have hql2 : q < (S'.rows.set q (.slice (some ⟨g, 0, none⟩) l.length cap, l.map (tmSet q (A.c q + 1)))).length := by rw [List.length_set]; exact hql
              clear hR2 hF2 hxc hx2 hk2 six hz2
              rw [List.length_map] at bs
              go_wp2_with fail
              refine (zeros_form S'.n hn1 hn6 _).mono ?_
              rintro e wB ⟨gz, cz, rfl, hoz, hgz, hlz, hbz⟩
              have hsz : (((w2.setCell ⟨g, i * 6, none⟩ (.bool true)).setCell ⟨g, i * 6 + 2, none⟩ (.int .i64 q)).setCell ⟨g, i * 6 + 3, none⟩ (.int .i64 (A.c q + 1))).heap.size = w2.heap.size := by rw [size_setCell, size_setCell, size_setCell]
              obtain ⟨RC, FC, GC⟩ := NW.out wB hbz gz cz (by rw [hsz] at hgz; exact hgz) (List.replicate S'.n 0) _ hoz (by simp)
              simp only [List.set_set, List.length_map] at RC
              have n4 : wB.cell? ⟨g, i * 6 + 4, none⟩ = some (.slice (some ⟨gc0, 0, none⟩) S'.n cc0) := by
                rw [hbz.cell (by rw [hsz]; exact hgl), World.cell?_setCell_other _ ⟨g, i * 6 + 3, none⟩ ⟨g, i * 6 + 4, none⟩ _ (by simp), World.cell?_setCell_other _ ⟨g, i * 6 + 2, none⟩ ⟨g, i * 6 + 4, none⟩ _ (by simp), World.cell?_setCell_other _ ⟨g, i * 6, none⟩ ⟨g, i * 6 + 4, none⟩ _ (by simp)]
                exact m4
              have n1 : wB.cell? ⟨g, i * 6 + 1, none⟩ = some (.string s.text) := by
                rw [hbz.cell (by rw [hsz]; exact hgl), World.cell?_setCell_other _ ⟨g, i * 6 + 3, none⟩ ⟨g, i * 6 + 1, none⟩ _ (by simp), World.cell?_setCell_other _ ⟨g, i * 6 + 2, none⟩ ⟨g, i * 6 + 1, none⟩ _ (by simp), World.cell?_setCell_other _ ⟨g, i * 6, none⟩ ⟨g, i * 6 + 1, none⟩ _ (by simp)]
                exact m1
              have nf : ∀ k, wB.frozen? ⟨g, k, none⟩ = false := fun k => by
                rw [hbz.frozen (by rw [hsz]; exact hgl), World.frozen?_setCell, World.frozen?_setCell, World.frozen?_setCell]; exact mf k
              have hglB : g < wB.heap.size := by have := hbz.size; omega
              have hxC : ({ S' with coms := S'.coms.set q (cw, cl.set q (A.c q + 1)), rows := S'.rows.set q (.slice (some ⟨g, 0, none⟩) l.length cap, (l.map (tmSet q (A.c q + 1))).set i { tmSet q (A.c q + 1) s with there := true, by_ := q, num := A.c q + 1, chv := .slice (some ⟨gz, 0, none⟩) S'.n cz, ch := List.replicate S'.n 0 }) } : RS).rows[q]? =
                  some (.slice (some ⟨g, 0, none⟩) ((l.map (tmSet q (A.c q + 1))).set i { tmSet q (A.c q + 1) s with there := true, by_ := q, num := A.c q + 1, chv := .slice (some ⟨gz, 0, none⟩) S'.n cz, ch := List.replicate S'.n 0 }).length cap, (l.map (tmSet q (A.c q + 1))).set i { tmSet q (A.c q + 1) s with there := true, by_ := q, num := A.c q + 1, chv := .slice (some ⟨gz, 0, none⟩) S'.n cz, ch := List.replicate S'.n 0 }) := by
                rw [List.length_set, List.length_map]
                simp [hql]
              have hkC : ((l.map (tmSet q (A.c q + 1))).set i { tmSet q (A.c q + 1) s with there := true, by_ := q, num := A.c q + 1, chv := .slice (some ⟨gz, 0, none⟩) S'.n cz, ch := List.replicate S'.n 0 })[i]? = some { tmSet q (A.c q + 1) s with there := true, by_ := q, num := A.c q + 1, chv := .slice (some ⟨gz, 0, none⟩) S'.n cz, ch := List.replicate S'.n 0 } := by
                rw [List.getElem?_set_self (by rw [List.length_map]; exact hil)]
              have TL := hide (fun w4 hb gc cc ch hch hchl => write_tail (w4 := w4) RC q hqn' g cap _ hxC i _ hkC t hb gc cc ch hch hchl (A.c q + 1))
              have spC := RC.sp q _ hxC _ (List.mem_of_getElem? hkC)
              have hρC : (upd ρ' gz (6, 0)) g = (5, q) := (RC.row q _ hxC).2 g rfl
              have HCH := hide (ownsRow_far (a := ⟨g, i * 6 + 1, none⟩) (u := .string t) spC.ch spC.chr hρC (by simp))
              have FCH := hide FC
              have GCH := hide GC
              have hneB : gz ≠ g := by rw [hsz] at hgz; omega
              clear RC FC GC spC hoz hgz hlz hbz hsz NW b0 m0 m1 m2 m3 m4 mf bs b3 hxC hkC
              go_wp2_with fail
              refine (copied_form _ (List.replicate S'.n 0) _ HCH.out (by simp; omega) (by simp; omega)).mono ?_
              rintro e w4 ⟨gc, cc, rfl, ho4, hg4, hl4, hb4⟩
              have TT := hide (TL.out w4 hb4 gc cc (List.replicate S'.n 0) ho4 (by simp))
              rw [List.length_replicate] at ho4 ⊢
              have hne : gc ≠ g := by rw [size_setCell, size_setCell] at hg4; omega
              have p4 : w4.cell? ⟨g, i * 6 + 4, none⟩ = some (.slice (some ⟨gz, 0, none⟩) S'.n cz) := by
                rw [hb4.cell (by rw [size_setCell, size_setCell]; exact hglB), World.cell?_setCell_other _ ⟨g, i * 6 + 1, none⟩ ⟨g, i * 6 + 4, none⟩ _ (by simp)]
                exact World.cell?_setCell_same _ _ _ n4
              have pf : w4.frozen? ⟨g, i * 6 + 4, none⟩ = false := by rw [hb4.frozen (by rw [size_setCell, size_setCell]; exact hglB), World.frozen?_setCell, World.frozen?_setCell]; exact nf _
              have pq : w4.cell? ⟨gc, q, none⟩ = some (.int .i64 ((List.replicate S'.n (0 : Int)).getD q 0)) := by rw [World.ownsRow.cellAt ho4 q (by omega)]; exact ivs_get _ _ (by simp; exact hqn')
              have pqf : w4.frozen? ⟨gc, q, none⟩ = false := World.ownsRow.frozenAt ho4 q
              generalize (List.replicate S'.n (0 : Int)).getD q 0 = z at pq
              clear ho4 hg4 hl4 hb4 n1 n4 nf HCH TL
              go_wp2
              go_ret
              obtain ⟨RT, FT, GT⟩ := TT.out
              simp only [List.set_set, List.length_set, List.length_map] at RT
              have FT' := FCH.out.trans' FT (fun k hk' hu => by
                unfold upd at hu
                by_cases e : k = gz
                · subst e; have := GCH.out k (by simp [upd]); rcases this with u | u; exact u; omega
                · rw [if_neg e] at hu; exact hu)
              obtain ⟨ρf, Sf, fin⟩ := write_put T.out q hqn' g cap l HX.out i s HKS.out p t HPI.out (A.c q + 1) (by have := HC0.out; omega) cw cl XC.out F2.out { tmSet q (A.c q + 1) s with there := true, by_ := q, num := A.c q + 1, text := t, chv := .slice (some ⟨gc, 0, none⟩) S'.n cc, ch := (List.replicate S'.n 0).set q (A.c q + 1) } rfl rfl rfl E2.out RT FT' (GCH.out.trans FCH.out.size GT)
              exact ⟨ρf, Sf, ret_int E1.out.symm, fin⟩

end Go.Proofs.YtaelaldmibgibaaGreatDoor

namespace Go.Proofs.YtaelaldmibgibaaGreatDoor
open Go.RowKit
attribute [local go_sem ↓] Go.wp_at_zero Go.wp_at_succ

/-- the world where a spot's four plain cells are cleared -/
def cleared (w : World) (g o : Nat) : World := (((w.setCell ⟨g, o, none⟩ (.bool false)).setCell ⟨g, o + 1, none⟩ (.string ⟨#[]⟩)).setCell ⟨g, o + 2, none⟩ (.int .i64 0)).setCell ⟨g, o + 3, none⟩ (.int .i64 0)
theorem cleared_size (w : World) (g o : Nat) : (cleared w g o).heap.size = w.heap.size := by unfold cleared; rw [size_setCell, size_setCell, size_setCell, size_setCell]

theorem cleared_cell (w : World) (g o k j : Nat) (h : k ≠ g) : (cleared w g o).cell? ⟨k, j, none⟩ = w.cell? ⟨k, j, none⟩ := by
  unfold cleared
  rw [World.cell?_setCell_far _ _ _ _ (by exact Ne.symm h), World.cell?_setCell_far _ _ _ _ (by exact Ne.symm h), World.cell?_setCell_far _ _ _ _ (by exact Ne.symm h), World.cell?_setCell_far _ _ _ _ (by exact Ne.symm h)]

/-- cells of other blocks behind gone -/
theorem gone_far {w wB : World} {g o k j : Nat} {u : Value} (hb : Below (cleared w g o).heap.size (cleared w g o) wB) (h : k ≠ g) (hk : k < w.heap.size) : (wB.setCell ⟨g, o + 4, none⟩ u).cell? ⟨k, j, none⟩ = w.cell? ⟨k, j, none⟩ := by
  rw [World.cell?_setCell_far _ _ _ _ (by exact Ne.symm h), hb.cell (by rw [cleared_size]; exact hk), cleared_cell w g o k j h]

/-- the blocks on the road to a spot are others than its row -/
theorem RefRep.road {w : World} {b : Nat} {ρ : Nat → Nat × Nat} {S : RS} (h : RefRep w b ρ S) (q g : Nat) (hρ : ρ g = (5, q)) (sg sc : Nat) (h3 : w.cell? ⟨b, 3, none⟩ = some (.slice (some ⟨sg, 0, none⟩) S.n sc)) : b ≠ g ∧ b < w.heap.size ∧ sg ≠ g ∧ sg < w.heap.size := by
  have e : S.sv = .slice (some ⟨sg, 0, none⟩) S.n sc := by rw [h.c3] at h3; simpa using h3
  have r1 : ρ sg = (8, 0) := h.rs sg (by rw [e]; rfl)
  refine ⟨?_, h.lt b (by rw [h.rb]; decide), ?_, h.lt sg (by rw [r1]; decide)⟩
  · rintro rfl; rw [h.rb] at hρ; simp at hρ
  · rintro rfl; rw [r1] at hρ; simp at hρ

set_option maxHeartbeats 400000 in
theorem gone_any (g o n : Nat) (w : World) (v0 v1 v2 v3 v4 : Value) (h1 : 1 ≤ n) (h6 : n ≤ 6) (hg : g < w.heap.size) (c0 : w.cell? ⟨g, o, none⟩ = some v0) (c1 : w.cell? ⟨g, o + 1, none⟩ = some v1) (c2 : w.cell? ⟨g, o + 2, none⟩ = some v2) (c3 : w.cell? ⟨g, o + 3, none⟩ = some v3) (c4 : w.cell? ⟨g, o + 4, none⟩ = some v4)
    (hf : ∀ k, w.frozen? ⟨g, k, none⟩ = false) :
    Calls Tryz.prog 154 #[.pointer (some ⟨g, o, none⟩), .int .i64 n] w fun e w' => e = .returned (.tuple #[]) ∧ ∃ gz cz wB, Below (cleared w g o).heap.size (cleared w g o) wB ∧
      wB.ownsRow (cleared w g o).heap.size 3 1 (.slice (some ⟨gz, 0, none⟩) n cz) n (ivs (List.replicate n 0)) ∧ w.heap.size ≤ gz ∧ w' = wB.setCell ⟨g, o + 4, none⟩ (.slice (some ⟨gz, 0, none⟩) n cz) := by
  have CS := hide (cleared_size w g o)
  have CW : Hid (cleared w g o = (((w.setCell ⟨g, o, none⟩ (.bool false)).setCell ⟨g, o + 1, none⟩ (.string ⟨#[]⟩)).setCell ⟨g, o + 2, none⟩ (.int .i64 0)).setCell ⟨g, o + 3, none⟩ (.int .i64 0)) := rfl
  have C4 : Hid ((cleared w g o).cell? ⟨g, o + 4, none⟩ = some v4) := by
    unfold Hid cleared
    rw [World.cell?_setCell_other _ ⟨g, o + 3, none⟩ ⟨g, o + 4, none⟩ _ (by simp), World.cell?_setCell_other _ ⟨g, o + 2, none⟩ ⟨g, o + 4, none⟩ _ (by simp), World.cell?_setCell_other _ ⟨g, o + 1, none⟩ ⟨g, o + 4, none⟩ _ (by simp), World.cell?_setCell_other _ ⟨g, o, none⟩ ⟨g, o + 4, none⟩ _ (by simp)]
    exact c4
  have CF : Hid ((cleared w g o).frozen? ⟨g, o + 4, none⟩ = false) := by
    unfold Hid cleared
    rw [World.frozen?_setCell, World.frozen?_setCell, World.frozen?_setCell, World.frozen?_setCell]
    exact hf _
  go_enter Tryz.func154, Tryz.ntmps154
  go_wp2_with fail
  rw [← CW.out]
  refine (zeros_form n h1 h6 _).mono ?_
  rintro e wB ⟨gz, cz, rfl, hoz, hgz, hlz, hbz⟩
  have n4 : wB.cell? ⟨g, o + 4, none⟩ = some v4 := (hbz.cell (p := ⟨g, o + 4, none⟩) (by rw [CS.out]; exact hg)).trans C4.out
  have nf : wB.frozen? ⟨g, o + 4, none⟩ = false := (hbz.frozen (p := ⟨g, o + 4, none⟩) (by rw [CS.out]; exact hg)).trans CF.out
  have H1 := hide hbz
  have H2 := hide hoz
  have H3 := hide hgz
  clear hbz hoz hgz hlz c0 c1 c2 c3 c4 hf
  go_wp2
  go_end0
  exact ⟨rfl, gz, cz, wB, H1.out, H2.out, by rw [← CS.out]; exact H3.out, rfl⟩

/-- what it leaves of a net -/
theorem gone_tail {w2 w4 : World} {b : Nat} {ρ : Nat → Nat × Nat} {S2 : RS} (hR2 : RefRep w2 b ρ S2) (q : Nat) (hq : q < S2.n) (g cap : Nat) (l : List SP) (hx : S2.rows[q]? = some (.slice (some ⟨g, 0, none⟩) l.length cap, l)) (i : Nat) (s : SP) (hk : l[i]? = some s)
    (hb : Below (cleared w2 g (i * 6)).heap.size (cleared w2 g (i * 6)) w4)
    (gc cc : Nat) (hg1 : w2.heap.size ≤ gc) (ch : List Int) (base : Nat) (hch : w4.ownsRow base 3 1 (.slice (some ⟨gc, 0, none⟩) S2.n cc) S2.n (ivs ch)) (hchl : ch.length = S2.n) :
    RefRep (w4.setCell ⟨g, i * 6 + 4, none⟩ (.slice (some ⟨gc, 0, none⟩) S2.n cc)) b (upd ρ gc (6, 0))
      { S2 with rows := S2.rows.set q (.slice (some ⟨g, 0, none⟩) l.length cap, l.set i { s with there := false, text := ⟨#[]⟩, by_ := 0, num := 0, chv := .slice (some ⟨gc, 0, none⟩) S2.n cc, ch := ch }) } ∧
    Fr (fun k => (ρ k).1 ≠ 0) w2 (w4.setCell ⟨g, i * 6 + 4, none⟩ (.slice (some ⟨gc, 0, none⟩) S2.n cc)) ∧ Grow w2 ρ (upd ρ gc (6, 0)) := by
  have hql : q < S2.rows.length := by rw [hR2.rowl]; exact hq
  have hρ : ρ g = (5, q) := (hR2.row q _ hx).2 g rfl
  have hi : i < l.length := (List.getElem?_eq_some_iff.1 hk).1
  obtain ⟨_, hg2⟩ := World.ownsRow.lt hch gc rfl
  have step : ∀ (W : World) (t t' : SP) (j : Nat) (u : Value), RefRep W b ρ { S2 with rows := S2.rows.set q (.slice (some ⟨g, 0, none⟩) l.length cap, l.set i t) } → j < 6 → t'.cells = t.cells.set j u → t'.chv = t.chv → t'.ch = t.ch → t'.tmv = t.tmv → t'.tm = t.tm →
      RefRep (W.setCell ⟨g, i * 6 + j, none⟩ u) b ρ { S2 with rows := S2.rows.set q (.slice (some ⟨g, 0, none⟩) l.length cap, l.set i t') } := by
    intro W t t' j u hW hj hc e1 e2 e3 e4
    have x1 : ({ S2 with rows := S2.rows.set q (.slice (some ⟨g, 0, none⟩) l.length cap, l.set i t) } : RS).rows[q]? = some (.slice (some ⟨g, 0, none⟩) (l.set i t).length cap, l.set i t) := by
      rw [List.length_set]; exact row_set hql _
    have k1 : (l.set i t)[i]? = some t := by simp [hi]
    have s1 := hW.sp q _ x1 _ (List.mem_of_getElem? k1)
    have A := hW.setSpot q g cap _ x1 i _ t' k1 j u hj hc ⟨by rw [e1, e2]; exact s1.ch, by rw [e2]; exact s1.chl, by rw [e1]; exact s1.chr, by rw [e3, e4]; exact s1.tm, by rw [e4]; exact s1.tml, by rw [e3]; exact s1.tmr⟩
    simp only [List.set_set, List.length_set] at A
    exact A
  have start : RefRep w2 b ρ { S2 with rows := S2.rows.set q (.slice (some ⟨g, 0, none⟩) l.length cap, l.set i s) } := by
    have e : ({ S2 with rows := S2.rows.set q (.slice (some ⟨g, 0, none⟩) l.length cap, l.set i s) } : RS) = S2 := by
      have e1 : l.set i s = l := by
        obtain ⟨h, rfl⟩ := List.getElem?_eq_some_iff.1 hk
        exact List.set_getElem_self h
      have e2 : S2.rows.set q (.slice (some ⟨g, 0, none⟩) l.length cap, l) = S2.rows := by
        obtain ⟨h, he⟩ := List.getElem?_eq_some_iff.1 hx
        rw [← he]; exact List.set_getElem_self h
      rw [e1, e2]
    rw [e]; exact hR2
  have A1 := step w2 s { s with there := false } 0 (.bool false) start (by omega) rfl rfl rfl rfl rfl
  have A2 := step _ _ { s with there := false, text := ⟨#[]⟩ } 1 (.string ⟨#[]⟩) A1 (by omega) rfl rfl rfl rfl rfl
  have A3 := step _ _ { s with there := false, text := ⟨#[]⟩, by_ := 0 } 2 (.int .i64 0) A2 (by omega) rfl rfl rfl rfl rfl
  have A4 := step _ _ { s with there := false, text := ⟨#[]⟩, by_ := 0, num := 0 } 3 (.int .i64 0) A3 (by omega) rfl rfl rfl rfl rfl
  have hfree : (ρ gc).1 = 0 := hR2.free hg1
  have A5 := (RefRep.below A4 hb).upd (6, 0) hfree hg2
  have x3 : ({ S2 with rows := S2.rows.set q (.slice (some ⟨g, 0, none⟩) l.length cap, l.set i { s with there := false, text := ⟨#[]⟩, by_ := 0, num := 0 }) } : RS).rows[q]? = some (.slice (some ⟨g, 0, none⟩) (l.set i { s with there := false, text := ⟨#[]⟩, by_ := 0, num := 0 }).length cap, l.set i { s with there := false, text := ⟨#[]⟩, by_ := 0, num := 0 }) := by
    rw [List.length_set]; exact row_set hql _
  have k3 : (l.set i { s with there := false, text := ⟨#[]⟩, by_ := 0, num := 0 })[i]? = some { s with there := false, text := ⟨#[]⟩, by_ := 0, num := 0 } := by simp [hi]
  have s3 := A5.sp q _ x3 _ (List.mem_of_getElem? k3)
  have A6 := A5.setSpot q g cap _ x3 i _ { s with there := false, text := ⟨#[]⟩, by_ := 0, num := 0, chv := .slice (some ⟨gc, 0, none⟩) S2.n cc, ch := ch } k3 4 (.slice (some ⟨gc, 0, none⟩) S2.n cc) (by omega) rfl
    ⟨by unfold intRow; rw [hchl]; exact ownsRow_base hch (fun _ _ => Nat.zero_le _), hchl, by intro k hk; simp [Value.ownBlock] at hk; subst hk; simp [upd], s3.tm, s3.tml, s3.tmr⟩
  simp only [List.set_set, List.length_set] at A6
  refine ⟨A6, ?_, (Grow.refl _ _).upd hg1 _⟩
  have hin : ∀ o : Nat, (fun k => (ρ k).1 ≠ 0) (⟨g, o, none⟩ : Addr).block := fun o => by simp only; rw [hρ]; simp
  have f1 : Fr (fun k => (ρ k).1 ≠ 0) w2 (cleared w2 g (i * 6)) :=
    ((((Fr.refl _ _).setCell (.inl (hin _)) _).setCell (.inl (hin _)) _).setCell (.inl (hin _)) _).setCell (.inl (hin _)) _
  exact (f1.trans' (Fr.of_below (S := fun k => (ρ k).1 ≠ 0) hb) (fun _ _ h => h)).setCell (.inl (hin _)) _

end Go.Proofs.YtaelaldmibgibaaGreatDoor

namespace Go.Proofs.YtaelaldmibgibaaGreatDoor
open Go.RowKit
attribute [local go_sem ↓] Go.wp_at_zero Go.wp_at_succ

theorem write_del {w w1 w2 wf : World} {b : Nat} {ρ ρ1 ρ2 : Nat → Nat × Nat} {S S1 : RS} {A A' : Abs} (T : After w b ρ S A w1 ρ1 S1) (q : Nat) (hq : q < S1.n) (g cap : Nat) (l : List SP) (hx : S1.rows[q]? = some (.slice (some ⟨g, 0, none⟩) l.length cap, l)) (i : Nat) (s : SP) (hk : l[i]? = some s)
    (p : ByteArray) (hp : S1.paths[i]? = some p) (x : Int) (hx0 : 0 ≤ x) (cw : Value) (cl : List Int) (hc : S1.coms[q]? = some (cw, cl)) (hF2 : Fr (fun k => (ρ1 k).1 ≠ 0) w1 w2) (sf : SP) (htm : sf.tm = s.tm.set q x) (hth : sf.there = false) (hA' : A' = A.set q (del p (A.F q)) x)
    (hR : RefRep wf b ρ2 { S1 with coms := S1.coms.set q (cw, cl.set q x), rows := S1.rows.set q (.slice (some ⟨g, 0, none⟩) l.length cap, (l.map (tmSet q x)).set i sf) }) (hF : Fr (fun k => (ρ1 k).1 ≠ 0) w2 wf) (hG : Grow w2 ρ1 ρ2) :
    ∃ ρ' S', After w b ρ S A' wf ρ' S' := by
  have := write_fin T q hq g cap l hx i s hk p hp x hx0 cw cl hc hF2 sf htm hR hF hG
  rw [if_neg (by rw [hth]; simp), ← hA'] at this
  exact ⟨_, _, this⟩

theorem removeE_ok {A : Abs} {q : Nat} {p : ByteArray} (ho : A.out (q : Int) = false) (hp : pathOk p = true) :
    A.removeE q p = if get p (A.F q) = none then 4 else if 1000000000 ≤ A.c q then 5 else 0 := by
  unfold Abs.removeE
  rw [if_neg (by rw [ho]; simp), if_neg (by rw [hp]; simp), Int.toNat_natCast]

set_option maxRecDepth 100000 in
set_option maxHeartbeats 1000000 in
theorem refRemove_any (b : Nat) (r : Int) (p : ByteArray) (ρ : Nat → Nat × Nat) (S : RS) (A : Abs) (w : World) (h : RefRep w b ρ S) (hI : RInv S A) (hm : S.paths.length ≤ 100000000) (hs : p.size ≤ maxLen) :
    Calls Tryz.prog 84 #[.pointer (some ⟨b, 0, none⟩), .int .i64 r, .string p] w fun e w' => ∃ ρ' S', e = .returned (.int .i64 (A.removeE r p)) ∧ After w b ρ S (A.remove r p) w' ρ' S' := by
  cases ho : A.out r with
  | true =>
    have e1 : A.removeE r p = 1 := by unfold Abs.removeE; rw [if_pos ho]
    have e2 : A.remove r p = A := by unfold Abs.remove; rw [e1]; rfl
    rw [e1, e2]
    have H := hide (After.refl h hI)
    have C := hide (asked_bad b r p ρ S A w h hI hs ho)
    clear h hI e1 e2
    go_enter Tryz.func84, Tryz.ntmps84
    go_wp2_with (go_at_call 150; refine C.out.mono ?_; rintro e w' ⟨rfl, rfl⟩)
    go_ret
    exact ⟨ρ, S, rfl, H.out⟩
  | false =>
    cases hp : pathOk p with
    | false =>
      have e1 : A.removeE r p = 2 := by unfold Abs.removeE; rw [if_neg (by rw [ho]; simp), if_pos hp]
      have e2 : A.remove r p = A := by unfold Abs.remove; rw [e1]; rfl
      rw [e1, e2]
      have H := hide (After.refl h hI)
      have C := hide (asked_path b r p ρ S A w h hI hs ho hp)
      clear h hI e1 e2
      go_enter Tryz.func84, Tryz.ntmps84
      go_wp2_with (go_at_call 150; refine C.out.mono ?_; rintro e w' ⟨rfl, rfl⟩)
      go_ret
      exact ⟨ρ, S, rfl, H.out⟩
    | true =>
      have C := hide (asked_ok b r p ρ S A w h hI hs ho hp)
      have D := hide (place_any b p ρ S A w h hI hm)
      have HPO := hide hp
      obtain ⟨q, rfl, hq⟩ := out_nat ho
      have e1 := hide (removeE_ok ho hp)
      have hqn : q < S.n := by rw [← hI.n]; exact hq
      clear h hI ho hp hq
      go_enter Tryz.func84, Tryz.ntmps84
      go_wp2_with fail
      refine C.out.mono ?_
      rintro e w ⟨rfl, rfl⟩
      go_wp2_with fail
      refine D.out.mono ?_
      rintro e w1 ⟨ρ', S', i, rfl, hR, hI', hG, hF, hpi, hn', hl', hsub⟩
      obtain ⟨sg, sc, g, cap, l, s, es, h3, hsr, hx, hks, hll, hA, hP, hg, hc, _⟩ := spot_at hR hI' q (by omega) i p hpi
      have hget := hP.get
      rw [← hA, rowM_head] at hget
      have c0 : w1.cell? ⟨g, i * 6, none⟩ = some (.bool s.there) := by simpa [SP.cells] using hc 0 (by omega)
      have hil : i < l.length := (List.getElem?_eq_some_iff.1 hks).1
      have hn6 := hR.n6
      have T := hide (⟨hR, hI', hG, hF, hn', hl', fun q hq => (hsub q hq).imp id (fun e => by rw [e]; exact HPO.out)⟩ : After w b ρ S A w1 ρ' S')
      have hqn' : q < S'.n := by omega
      have hcnt := hI'.cnt q hqn'
      have HX := hide hx
      have HKS := hide hks
      have HPI := hide hpi
      have HGET := hide hget
      have SP1 := hide (spent_any b q ρ' S' w1 hR hqn')
      have AC1 := hide (acts_any b q ρ' S' w1 hR hqn' (by rw [← hcnt.1]; exact hcnt.2))
      rw [← hcnt.1] at SP1 AC1
      have HC0 := hide hcnt.2
      clear hks hx es hA hP hc hpi hG hF hl' hll hI' hR hn' hget hcnt
      cases ht : s.there with
      | false =>
        rw [ht] at c0 HGET
        rw [if_neg (by simp)] at HGET
        have E1 : Hid (A.removeE q p = 4) := by unfold Hid; rw [e1.out, if_pos HGET.out]
        have E2 : Hid (A.remove q p = A) := by unfold Hid Abs.remove; rw [E1.out]; rfl
        clear e1 HGET ht
        generalize S'.n = n at *
        go_wp2
        go_ret
        exact ⟨ρ', S', ret_int (E1.out.symm), by rw [E2.out]; exact T.out⟩
      | true =>
        rw [ht] at c0 HGET
        rw [if_pos rfl] at HGET
        by_cases hsp : 1000000000 ≤ A.c q
        · have E1 : Hid (A.removeE q p = 5) := by unfold Hid; rw [e1.out, if_neg (by rw [HGET.out]; simp), if_pos hsp]
          have E2 : Hid (A.remove q p = A) := by unfold Hid Abs.remove; rw [E1.out]; rfl
          have hd : decide (1000000000 ≤ A.c q) = true := by simp [hsp]
          rw [hd] at SP1
          clear hd e1 HGET ht
          generalize S'.n = n at *
          go_wp2_with (go_at_call 151; refine SP1.out.mono ?_; rintro e w' ⟨rfl, rfl⟩)
          go_ret
          exact ⟨ρ', S', ret_int (E1.out.symm), by rw [E2.out]; exact T.out⟩
        · have hd : decide (1000000000 ≤ A.c q) = false := by simp; omega
          rw [hd] at SP1
          have E1 : Hid (A.removeE q p = 0) := by unfold Hid; rw [e1.out, if_neg (by rw [HGET.out]; simp), if_neg hsp]
          have E2 : Hid (A.remove q p = A.set q (del p (A.F q)) (A.c q + 1)) := by unfold Hid Abs.remove; rw [E1.out, Int.toNat_natCast]; rfl
          clear hd e1 HGET ht
          have hsp' : A.c q < 1000000000 := by omega
          go_wp2_with fail
          refine SP1.out.mono ?_
          rintro e w1 ⟨rfl, rfl⟩
          go_wp2_with fail
          refine (AC1.out hsp').mono ?_
          rintro e w2 ⟨cw, cl, v, l0, hxc, hxr, rfl, hR2, hF2, hz2⟩
          rw [HX.out] at hxr
          simp at hxr
          obtain ⟨rfl, rfl⟩ := hxr
          have hql : q < S'.rows.length := (List.getElem?_eq_some_iff.1 HX.out).1
          obtain ⟨hx2, hk2⟩ := acted_row (x := A.c q + 1) (cw := cw) (cl := cl) hql HKS.out
          obtain ⟨sg2, sc2, gc0, cc0, gt0, ct0, b3, bs, six⟩ := hR2.access q hqn' g cap _ hx2 i _ hk2
          have hρg : ρ' g = (5, q) := (hR2.row q _ hx2).2 g rfl
          have hn1 : 1 ≤ S'.n := hR2.n1
          have hgl : g < w2.heap.size := hR2.lt g (by rw [hρg]; simp)
          have b0 := hR2.c0
          obtain ⟨hbg, hbl, hsgg, hsgl⟩ := hR2.road q g hρg sg2 sc2 b3
          have GN := hide (fun (W : World) (e0 : W.heap = w2.heap) => gone_any g (i * 6) S'.n W _ _ _ _ _ hn1 hn6 (by rw [e0]; exact hgl) ((World.cell?_of_block (w := w2) (by rw [e0])).trans six.c0) ((World.cell?_of_block (w := w2) (by rw [e0])).trans six.c1) ((World.cell?_of_block (w := w2) (by rw [e0])).trans six.c2) ((World.cell?_of_block (w := w2) (by rw [e0])).trans six.c3) ((World.cell?_of_block (w := w2) (by rw [e0])).trans six.c4) (fun k => (World.frozen?_of_block (w := w2) (by rw [e0])).trans (six.fz k)))
          have GT := hide (fun w4 hb gc cc hg1 ch base hch hchl => gone_tail (w4 := w4) hR2 q hqn' g cap _ hx2 i _ hk2 hb gc cc hg1 ch base hch hchl)
          have F2 := hide hF2
          have XC := hide hxc
          have HH := hide (fun (W : World) (e0 : W.heap = w2.heap) => hR2.keep (w' := W) (by rw [e0]; omega) (fun k _ => by rw [e0]))
          clear hR2 hF2 hxc hx2 hk2 six hz2
          rw [List.length_map] at bs
          have KA := hide (fun (W wB : World) (u : Value) (e0 : W.heap = w2.heap) (hb : Below (cleared W g (i * 6)).heap.size (cleared W g (i * 6)) wB) => (⟨(gone_far hb hbg (by rw [e0]; exact hbl)).trans ((World.cell?_of_block (w := w2) (by rw [e0])).trans b3), (gone_far hb hsgg (by rw [e0]; exact hsgl)).trans ((World.cell?_of_block (w := w2) (by rw [e0])).trans bs), (gone_far hb hbg (by rw [e0]; exact hbl)).trans ((World.cell?_of_block (w := w2) (by rw [e0])).trans b0)⟩ :
            (wB.setCell ⟨g, i * 6 + 4, none⟩ u).cell? ⟨b, 3, none⟩ = some (.slice (some ⟨sg2, 0, none⟩) S'.n sc2) ∧ (wB.setCell ⟨g, i * 6 + 4, none⟩ u).cell? ⟨sg2, q, none⟩ = some (.slice (some ⟨g, 0, none⟩) l.length cap) ∧ (wB.setCell ⟨g, i * 6 + 4, none⟩ u).cell? ⟨b, 0, none⟩ = some (.int .i64 S'.n)))
          clear hsp
          go_wp2_with fail
          go_region_held3 (fun W => W.cell? ⟨b, 3, none⟩ = some (.slice (some ⟨sg2, 0, none⟩) S'.n sc2) ∧ W.cell? ⟨sg2, q, none⟩ = some (.slice (some ⟨g, 0, none⟩) l.length cap) ∧ W.cell? ⟨b, 0, none⟩ = some (.int .i64 S'.n))
            (first | exact KA.out w2.drew _ _ rfl hbz | exact ⟨b3, bs, b0⟩ | go_keep)
            (first | (go_at_call 154; refine (GN.out w2.drew rfl).mono ?_; rintro e w' ⟨rfl, gz, cz, wB, hbz, hoz, hgz, rfl⟩))
          go_wp2
          go_ret
          obtain ⟨RT, FT, GTT⟩ := GT.out wB ⟨hbz.os, hbz.tape, hbz.output, hbz.size, hbz.block⟩ gz cz hgz (List.replicate S'.n 0) _ hoz (by simp)
          simp only [List.set_set, List.length_map] at RT
          obtain ⟨ρf, Sf, fin⟩ := write_del T.out q hqn' g cap l HX.out i s HKS.out p HPI.out (A.c q + 1) (by have := HC0.out; omega) cw cl XC.out F2.out { tmSet q (A.c q + 1) s with there := false, text := ⟨#[]⟩, by_ := 0, num := 0, chv := .slice (some ⟨gz, 0, none⟩) S'.n cz, ch := List.replicate S'.n 0 } rfl rfl E2.out RT FT GTT
          exact ⟨ρf, Sf, ret_int E1.out.symm, fin⟩

end Go.Proofs.YtaelaldmibgibaaGreatDoor
