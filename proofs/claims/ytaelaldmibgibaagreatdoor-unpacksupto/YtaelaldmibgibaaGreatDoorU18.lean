/- The document's answer: gone, Remove. The document's answer: Remove. The document's answer: List. The document's answer: kept, Look. The document's answer: New. -/
import Derived.Test.YtaelaldmibgibaaGreatDoorU17
import Derived.Deep.RegionLaw

set_option linter.unusedVariables false
set_option linter.unusedSimpArgs false

namespace Go.Proofs.YtaelaldmibgibaaGreatDoor
open Go.RowKit
attribute [local go_sem ↓] Go.wp_at_zero Go.wp_at_succ

/-- the world where a spot's four plain cells are cleared -/
def cleared (w : World) (g o : Nat) : World := (((w.setCell ⟨g, o, none⟩ (.bool false)).setCell ⟨g, o + 1, none⟩ (.string ⟨#[]⟩)).setCell ⟨g, o + 2, none⟩ (.int .i64 0)).setCell ⟨g, o + 3, none⟩ (.int .i64 0)
theorem cleared_size (w : World) (g o : Nat) : (cleared w g o).heap.size = w.heap.size := by unfold cleared; rw [size_setCell, size_setCell, size_setCell, size_setCell]

theorem cleared_cell (w : World) (g o k j : Nat) (h : k ≠ g) : (cleared w g o).cell? ⟨k, j, none⟩ = w.cell? ⟨k, j, none⟩ := by
  unfold cleared
  rw [World.cell?_setCell_far _ _ _ _ (by exact Ne.symm h), World.cell?_setCell_far _ _ _ _ (by exact Ne.symm h), World.cell?_setCell_far _ _ _ _ (by exact Ne.symm h), World.cell?_setCell_far _ _ _ _ (by exact Ne.symm h)]

/-- cells of other blocks behind gone -/
theorem gone_far {w wB : World} {g o k j : Nat} {u : Value} (hb : Below (cleared w g o).heap.size (cleared w g o) wB) (h : k ≠ g) (hk : k < w.heap.size) : (wB.setCell ⟨g, o + 4, none⟩ u).cell? ⟨k, j, none⟩ = w.cell? ⟨k, j, none⟩ := by
  rw [World.cell?_setCell_far _ _ _ _ (by exact Ne.symm h), hb.cell (by rw [cleared_size]; exact hk), cleared_cell w g o k j h]

/-- the blocks on the road to a spot are others than its row -/
theorem RefRep.road {w : World} {b : Nat} {ρ : Nat → Nat × Nat} {S : RS} (h : RefRep w b ρ S) (q g : Nat) (hρ : ρ g = (5, q)) (sg sc : Nat) (h3 : w.cell? ⟨b, 3, none⟩ = some (.slice (some ⟨sg, 0, none⟩) S.n sc)) : b ≠ g ∧ b < w.heap.size ∧ sg ≠ g ∧ sg < w.heap.size := by
  have e : S.sv = .slice (some ⟨sg, 0, none⟩) S.n sc := by rw [h.c3] at h3; simpa using h3
  have r1 : ρ sg = (8, 0) := h.rs sg (by rw [e]; rfl)
  refine ⟨?_, h.lt b (by rw [h.rb]; decide), ?_, h.lt sg (by rw [r1]; decide)⟩
  · rintro rfl; rw [h.rb] at hρ; simp at hρ
  · rintro rfl; rw [r1] at hρ; simp at hρ

set_option maxHeartbeats 400000 in
theorem gone_any (g o n : Nat) (w : World) (v0 v1 v2 v3 v4 : Value) (h1 : 1 ≤ n) (h6 : n ≤ 6) (hg : g < w.heap.size) (c0 : w.cell? ⟨g, o, none⟩ = some v0) (c1 : w.cell? ⟨g, o + 1, none⟩ = some v1) (c2 : w.cell? ⟨g, o + 2, none⟩ = some v2) (c3 : w.cell? ⟨g, o + 3, none⟩ = some v3) (c4 : w.cell? ⟨g, o + 4, none⟩ = some v4)
    (hf : ∀ k, w.frozen? ⟨g, k, none⟩ = false) :
    Calls Tryz.prog 154 #[.pointer (some ⟨g, o, none⟩), .int .i64 n] w fun e w' => e = .returned (.tuple #[]) ∧ ∃ gz cz wB, Below (cleared w g o).heap.size (cleared w g o) wB ∧
      wB.ownsRow (cleared w g o).heap.size 3 1 (.slice (some ⟨gz, 0, none⟩) n cz) n (ivs (List.replicate n 0)) ∧ w.heap.size ≤ gz ∧ w' = wB.setCell ⟨g, o + 4, none⟩ (.slice (some ⟨gz, 0, none⟩) n cz) := by
  have CS := hide (cleared_size w g o)
  have CW : Hid (cleared w g o = (((w.setCell ⟨g, o, none⟩ (.bool false)).setCell ⟨g, o + 1, none⟩ (.string ⟨#[]⟩)).setCell ⟨g, o + 2, none⟩ (.int .i64 0)).setCell ⟨g, o + 3, none⟩ (.int .i64 0)) := rfl
  have C4 : Hid ((cleared w g o).cell? ⟨g, o + 4, none⟩ = some v4) := by
    unfold Hid cleared
    rw [World.cell?_setCell_other _ ⟨g, o + 3, none⟩ ⟨g, o + 4, none⟩ _ (by simp), World.cell?_setCell_other _ ⟨g, o + 2, none⟩ ⟨g, o + 4, none⟩ _ (by simp), World.cell?_setCell_other _ ⟨g, o + 1, none⟩ ⟨g, o + 4, none⟩ _ (by simp), World.cell?_setCell_other _ ⟨g, o, none⟩ ⟨g, o + 4, none⟩ _ (by simp)]
    exact c4
  have CF : Hid ((cleared w g o).frozen? ⟨g, o + 4, none⟩ = false) := by
    unfold Hid cleared
    rw [World.frozen?_setCell, World.frozen?_setCell, World.frozen?_setCell, World.frozen?_setCell]
    exact hf _
  go_enter Tryz.func154, Tryz.ntmps154
  go_wp2_with fail
  rw [← CW.out]
  refine (zeros_form n h1 h6 _).mono ?_
  rintro e wB ⟨gz, cz, rfl, hoz, hgz, hlz, hbz⟩
  have n4 : wB.cell? ⟨g, o + 4, none⟩ = some v4 := (hbz.cell (p := ⟨g, o + 4, none⟩) (by rw [CS.out]; exact hg)).trans C4.out
  have nf : wB.frozen? ⟨g, o + 4, none⟩ = false := (hbz.frozen (p := ⟨g, o + 4, none⟩) (by rw [CS.out]; exact hg)).trans CF.out
  have H1 := hide hbz
  have H2 := hide hoz
  have H3 := hide hgz
  clear hbz hoz hgz hlz c0 c1 c2 c3 c4 hf
  go_wp2
  go_end0
  exact ⟨rfl, gz, cz, wB, H1.out, H2.out, by rw [← CS.out]; exact H3.out, rfl⟩

/-- what it leaves of a net -/
theorem gone_tail {w2 w4 : World} {b : Nat} {ρ : Nat → Nat × Nat} {S2 : RS} (hR2 : RefRep w2 b ρ S2) (q : Nat) (hq : q < S2.n) (g cap : Nat) (l : List SP) (hx : S2.rows[q]? = some (.slice (some ⟨g, 0, none⟩) l.length cap, l)) (i : Nat) (s : SP) (hk : l[i]? = some s)
    (hb : Below (cleared w2 g (i * 6)).heap.size (cleared w2 g (i * 6)) w4)
    (gc cc : Nat) (hg1 : w2.heap.size ≤ gc) (ch : List Int) (base : Nat) (hch : w4.ownsRow base 3 1 (.slice (some ⟨gc, 0, none⟩) S2.n cc) S2.n (ivs ch)) (hchl : ch.length = S2.n) :
    RefRep (w4.setCell ⟨g, i * 6 + 4, none⟩ (.slice (some ⟨gc, 0, none⟩) S2.n cc)) b (upd ρ gc (6, 0))
      { S2 with rows := S2.rows.set q (.slice (some ⟨g, 0, none⟩) l.length cap, l.set i { s with there := false, text := ⟨#[]⟩, by_ := 0, num := 0, chv := .slice (some ⟨gc, 0, none⟩) S2.n cc, ch := ch }) } ∧
    Fr (fun k => (ρ k).1 ≠ 0) w2 (w4.setCell ⟨g, i * 6 + 4, none⟩ (.slice (some ⟨gc, 0, none⟩) S2.n cc)) ∧ Grow w2 ρ (upd ρ gc (6, 0)) := by
  have hql : q < S2.rows.length := by rw [hR2.rowl]; exact hq
  have hρ : ρ g = (5, q) := (hR2.row q _ hx).2 g rfl
  have hi : i < l.length := (List.getElem?_eq_some_iff.1 hk).1
  obtain ⟨_, hg2⟩ := World.ownsRow.lt hch gc rfl
  have step : ∀ (W : World) (t t' : SP) (j : Nat) (u : Value), RefRep W b ρ { S2 with rows := S2.rows.set q (.slice (some ⟨g, 0, none⟩) l.length cap, l.set i t) } → j < 6 → t'.cells = t.cells.set j u → t'.chv = t.chv → t'.ch = t.ch → t'.tmv = t.tmv → t'.tm = t.tm →
      RefRep (W.setCell ⟨g, i * 6 + j, none⟩ u) b ρ { S2 with rows := S2.rows.set q (.slice (some ⟨g, 0, none⟩) l.length cap, l.set i t') } := by
    intro W t t' j u hW hj hc e1 e2 e3 e4
    have x1 : ({ S2 with rows := S2.rows.set q (.slice (some ⟨g, 0, none⟩) l.length cap, l.set i t) } : RS).rows[q]? = some (.slice (some ⟨g, 0, none⟩) (l.set i t).length cap, l.set i t) := by
      rw [List.length_set]; exact row_set hql _
    have k1 : (l.set i t)[i]? = some t := by simp [hi]
    have s1 := hW.sp q _ x1 _ (List.mem_of_getElem? k1)
    have A := hW.setSpot q g cap _ x1 i _ t' k1 j u hj hc ⟨by rw [e1, e2]; exact s1.ch, by rw [e2]; exact s1.chl, by rw [e1]; exact s1.chr, by rw [e3, e4]; exact s1.tm, by rw [e4]; exact s1.tml, by rw [e3]; exact s1.tmr⟩
    simp only [List.set_set, List.length_set] at A
    exact A
  have start : RefRep w2 b ρ { S2 with rows := S2.rows.set q (.slice (some ⟨g, 0, none⟩) l.length cap, l.set i s) } := by
    have e : ({ S2 with rows := S2.rows.set q (.slice (some ⟨g, 0, none⟩) l.length cap, l.set i s) } : RS) = S2 := by
      have e1 : l.set i s = l := by
        obtain ⟨h, rfl⟩ := List.getElem?_eq_some_iff.1 hk
        exact List.set_getElem_self h
      have e2 : S2.rows.set q (.slice (some ⟨g, 0, none⟩) l.length cap, l) = S2.rows := by
        obtain ⟨h, he⟩ := List.getElem?_eq_some_iff.1 hx
        rw [← he]; exact List.set_getElem_self h
      rw [e1, e2]
    rw [e]; exact hR2
  have A1 := step w2 s { s with there := false } 0 (.bool false) start (by omega) rfl rfl rfl rfl rfl
  have A2 := step _ _ { s with there := false, text := ⟨#[]⟩ } 1 (.string ⟨#[]⟩) A1 (by omega) rfl rfl rfl rfl rfl
  have A3 := step _ _ { s with there := false, text := ⟨#[]⟩, by_ := 0 } 2 (.int .i64 0) A2 (by omega) rfl rfl rfl rfl rfl
  have A4 := step _ _ { s with there := false, text := ⟨#[]⟩, by_ := 0, num := 0 } 3 (.int .i64 0) A3 (by omega) rfl rfl rfl rfl rfl
  have hfree : (ρ gc).1 = 0 := hR2.free hg1
  have A5 := (RefRep.below A4 hb).upd (6, 0) hfree hg2
  have x3 : ({ S2 with rows := S2.rows.set q (.slice (some ⟨g, 0, none⟩) l.length cap, l.set i { s with there := false, text := ⟨#[]⟩, by_ := 0, num := 0 }) } : RS).rows[q]? = some (.slice (some ⟨g, 0, none⟩) (l.set i { s with there := false, text := ⟨#[]⟩, by_ := 0, num := 0 }).length cap, l.set i { s with there := false, text := ⟨#[]⟩, by_ := 0, num := 0 }) := by
    rw [List.length_set]; exact row_set hql _
  have k3 : (l.set i { s with there := false, text := ⟨#[]⟩, by_ := 0, num := 0 })[i]? = some { s with there := false, text := ⟨#[]⟩, by_ := 0, num := 0 } := by simp [hi]
  have s3 := A5.sp q _ x3 _ (List.mem_of_getElem? k3)
  have A6 := A5.setSpot q g cap _ x3 i _ { s with there := false, text := ⟨#[]⟩, by_ := 0, num := 0, chv := .slice (some ⟨gc, 0, none⟩) S2.n cc, ch := ch } k3 4 (.slice (some ⟨gc, 0, none⟩) S2.n cc) (by omega) rfl
    ⟨by unfold intRow; rw [hchl]; exact ownsRow_base hch (fun _ _ => Nat.zero_le _), hchl, by intro k hk; simp [Value.ownBlock] at hk; subst hk; simp [upd], s3.tm, s3.tml, s3.tmr⟩
  simp only [List.set_set, List.length_set] at A6
  refine ⟨A6, ?_, (Grow.refl _ _).upd hg1 _⟩
  have hin : ∀ o : Nat, (fun k => (ρ k).1 ≠ 0) (⟨g, o, none⟩ : Addr).block := fun o => by simp only; rw [hρ]; simp
  have f1 : Fr (fun k => (ρ k).1 ≠ 0) w2 (cleared w2 g (i * 6)) :=
    ((((Fr.refl _ _).setCell (.inl (hin _)) _).setCell (.inl (hin _)) _).setCell (.inl (hin _)) _).setCell (.inl (hin _)) _
  exact (f1.trans' (Fr.of_below (S := fun k => (ρ k).1 ≠ 0) hb) (fun _ _ h => h)).setCell (.inl (hin _)) _

end Go.Proofs.YtaelaldmibgibaaGreatDoor

namespace Go.Proofs.YtaelaldmibgibaaGreatDoor
open Go.RowKit
attribute [local go_sem ↓] Go.wp_at_zero Go.wp_at_succ

theorem write_del {w w1 w2 wf : World} {b : Nat} {ρ ρ1 ρ2 : Nat → Nat × Nat} {S S1 : RS} {A A' : Abs} (T : After w b ρ S A w1 ρ1 S1) (q : Nat) (hq : q < S1.n) (g cap : Nat) (l : List SP) (hx : S1.rows[q]? = some (.slice (some ⟨g, 0, none⟩) l.length cap, l)) (i : Nat) (s : SP) (hk : l[i]? = some s)
    (p : ByteArray) (hp : S1.paths[i]? = some p) (x : Int) (hx0 : 0 ≤ x) (cw : Value) (cl : List Int) (hc : S1.coms[q]? = some (cw, cl)) (hF2 : Fr (fun k => (ρ1 k).1 ≠ 0) w1 w2) (sf : SP) (htm : sf.tm = s.tm.set q x) (hth : sf.there = false) (hA' : A' = A.set q (del p (A.F q)) x)
    (hR : RefRep wf b ρ2 { S1 with coms := S1.coms.set q (cw, cl.set q x), rows := S1.rows.set q (.slice (some ⟨g, 0, none⟩) l.length cap, (l.map (tmSet q x)).set i sf) }) (hF : Fr (fun k => (ρ1 k).1 ≠ 0) w2 wf) (hG : Grow w2 ρ1 ρ2) :
    ∃ ρ' S', After w b ρ S A' wf ρ' S' := by
  have := write_fin T q hq g cap l hx i s hk p hp x hx0 cw cl hc hF2 sf htm hR hF hG
  rw [if_neg (by rw [hth]; simp), ← hA'] at this
  exact ⟨_, _, this⟩

theorem removeE_ok {A : Abs} {q : Nat} {p : ByteArray} (ho : A.out (q : Int) = false) (hp : pathOk p = true) :
    A.removeE q p = if get p (A.F q) = none then 4 else if 1000000000 ≤ A.c q then 5 else 0 := by
  unfold Abs.removeE
  rw [if_neg (by rw [ho]; simp), if_neg (by rw [hp]; simp), Int.toNat_natCast]

set_option maxRecDepth 100000 in
set_option maxHeartbeats 1000000 in
theorem refRemove_any (b : Nat) (r : Int) (p : ByteArray) (ρ : Nat → Nat × Nat) (S : RS) (A : Abs) (w : World) (h : RefRep w b ρ S) (hI : RInv S A) (hm : S.paths.length ≤ 100000000) (hs : p.size ≤ maxLen) :
    Calls Tryz.prog 84 #[.pointer (some ⟨b, 0, none⟩), .int .i64 r, .string p] w fun e w' => ∃ ρ' S', e = .returned (.int .i64 (A.removeE r p)) ∧ After w b ρ S (A.remove r p) w' ρ' S' := by
  cases ho : A.out r with
  | true =>
    have e1 : A.removeE r p = 1 := by unfold Abs.removeE; rw [if_pos ho]
    have e2 : A.remove r p = A := by unfold Abs.remove; rw [e1]; rfl
    rw [e1, e2]
    have H := hide (After.refl h hI)
    have C := hide (asked_bad b r p ρ S A w h hI hs ho)
    clear h hI e1 e2
    go_enter Tryz.func84, Tryz.ntmps84
    go_wp2_with (go_at_call 150; refine C.out.mono ?_; rintro e w' ⟨rfl, rfl⟩)
    go_ret
    exact ⟨ρ, S, rfl, H.out⟩
  | false =>
    cases hp : pathOk p with
    | false =>
      have e1 : A.removeE r p = 2 := by unfold Abs.removeE; rw [if_neg (by rw [ho]; simp), if_pos hp]
      have e2 : A.remove r p = A := by unfold Abs.remove; rw [e1]; rfl
      rw [e1, e2]
      have H := hide (After.refl h hI)
      have C := hide (asked_path b r p ρ S A w h hI hs ho hp)
      clear h hI e1 e2
      go_enter Tryz.func84, Tryz.ntmps84
      go_wp2_with (go_at_call 150; refine C.out.mono ?_; rintro e w' ⟨rfl, rfl⟩)
      go_ret
      exact ⟨ρ, S, rfl, H.out⟩
    | true =>
      have C := hide (asked_ok b r p ρ S A w h hI hs ho hp)
      have D := hide (place_any b p ρ S A w h hI hm)
      have HPO := hide hp
      obtain ⟨q, rfl, hq⟩ := out_nat ho
      have e1 := hide (removeE_ok ho hp)
      have hqn : q < S.n := by rw [← hI.n]; exact hq
      clear h hI ho hp hq
      go_enter Tryz.func84, Tryz.ntmps84
      go_wp2_with fail
      refine C.out.mono ?_
      rintro e w ⟨rfl, rfl⟩
      go_wp2_with fail
      refine D.out.mono ?_
      rintro e w1 ⟨ρ', S', i, rfl, hR, hI', hG, hF, hpi, hn', hl', hsub⟩
      obtain ⟨sg, sc, g, cap, l, s, es, h3, hsr, hx, hks, hll, hA, hP, hg, hc, _⟩ := spot_at hR hI' q (by omega) i p hpi
      have hget := hP.get
      rw [← hA, rowM_head] at hget
      have c0 : w1.cell? ⟨g, i * 6, none⟩ = some (.bool s.there) := by simpa [SP.cells] using hc 0 (by omega)
      have hil : i < l.length := (List.getElem?_eq_some_iff.1 hks).1
      have hn6 := hR.n6
      have T := hide (⟨hR, hI', hG, hF, hn', hl', fun q hq => (hsub q hq).imp id (fun e => by rw [e]; exact HPO.out)⟩ : After w b ρ S A w1 ρ' S')
      have hqn' : q < S'.n := by omega
      have hcnt := hI'.cnt q hqn'
      have HX := hide hx
      have HKS := hide hks
      have HPI := hide hpi
      have HGET := hide hget
      have SP1 := hide (spent_any b q ρ' S' w1 hR hqn')
      have AC1 := hide (acts_any b q ρ' S' w1 hR hqn' (by rw [← hcnt.1]; exact hcnt.2))
      rw [← hcnt.1] at SP1 AC1
      have HC0 := hide hcnt.2
      clear hks hx es hA hP hc hpi hG hF hl' hll hI' hR hn' hget hcnt
      cases ht : s.there with
      | false =>
        rw [ht] at c0 HGET
        rw [if_neg (by simp)] at HGET
        have E1 : Hid (A.removeE q p = 4) := by unfold Hid; rw [e1.out, if_pos HGET.out]
        have E2 : Hid (A.remove q p = A) := by unfold Hid Abs.remove; rw [E1.out]; rfl
        clear e1 HGET ht
        generalize S'.n = n at *
        go_wp2
        go_ret
        exact ⟨ρ', S', ret_int (E1.out.symm), by rw [E2.out]; exact T.out⟩
      | true =>
        rw [ht] at c0 HGET
        rw [if_pos rfl] at HGET
        by_cases hsp : 1000000000 ≤ A.c q
        · have E1 : Hid (A.removeE q p = 5) := by unfold Hid; rw [e1.out, if_neg (by rw [HGET.out]; simp), if_pos hsp]
          have E2 : Hid (A.remove q p = A) := by unfold Hid Abs.remove; rw [E1.out]; rfl
          have hd : decide (1000000000 ≤ A.c q) = true := by simp [hsp]
          rw [hd] at SP1
          clear hd e1 HGET ht
          generalize S'.n = n at *
          go_wp2_with (go_at_call 151; refine SP1.out.mono ?_; rintro e w' ⟨rfl, rfl⟩)
          go_ret
          exact ⟨ρ', S', ret_int (E1.out.symm), by rw [E2.out]; exact T.out⟩
        · have hd : decide (1000000000 ≤ A.c q) = false := by simp; omega
          rw [hd] at SP1
          have E1 : Hid (A.removeE q p = 0) := by unfold Hid; rw [e1.out, if_neg (by rw [HGET.out]; simp), if_neg hsp]
          have E2 : Hid (A.remove q p = A.set q (del p (A.F q)) (A.c q + 1)) := by unfold Hid Abs.remove; rw [E1.out, Int.toNat_natCast]; rfl
          clear hd e1 HGET ht
          have hsp' : A.c q < 1000000000 := by omega
          go_wp2_with fail
          refine SP1.out.mono ?_
          rintro e w1 ⟨rfl, rfl⟩
          go_wp2_with fail
          refine (AC1.out hsp').mono ?_
          rintro e w2 ⟨cw, cl, v, l0, hxc, hxr, rfl, hR2, hF2, hz2⟩
          rw [HX.out] at hxr
          simp at hxr
          obtain ⟨rfl, rfl⟩ := hxr
          have hql : q < S'.rows.length := (List.getElem?_eq_some_iff.1 HX.out).1
          obtain ⟨hx2, hk2⟩ := acted_row (x := A.c q + 1) (cw := cw) (cl := cl) hql HKS.out
          obtain ⟨sg2, sc2, gc0, cc0, gt0, ct0, b3, bs, six⟩ := hR2.access q hqn' g cap _ hx2 i _ hk2
          have hρg : ρ' g = (5, q) := (hR2.row q _ hx2).2 g rfl
          have hn1 : 1 ≤ S'.n := hR2.n1
          have hgl : g < w2.heap.size := hR2.lt g (by rw [hρg]; simp)
          have b0 := hR2.c0
          obtain ⟨hbg, hbl, hsgg, hsgl⟩ := hR2.road q g hρg sg2 sc2 b3
          have GN := hide (fun (W : World) (e0 : W.heap = w2.heap) => gone_any g (i * 6) S'.n W _ _ _ _ _ hn1 hn6 (by rw [e0]; exact hgl) ((World.cell?_of_block (w := w2) (by rw [e0])).trans six.c0) ((World.cell?_of_block (w := w2) (by rw [e0])).trans six.c1) ((World.cell?_of_block (w := w2) (by rw [e0])).trans six.c2) ((World.cell?_of_block (w := w2) (by rw [e0])).trans six.c3) ((World.cell?_of_block (w := w2) (by rw [e0])).trans six.c4) (fun k => (World.frozen?_of_block (w := w2) (by rw [e0])).trans (six.fz k)))
          have GT := hide (fun w4 hb gc cc hg1 ch base hch hchl => gone_tail (w4 := w4) hR2 q hqn' g cap _ hx2 i _ hk2 hb gc cc hg1 ch base hch hchl)
          have F2 := hide hF2
          have XC := hide hxc
          have HH := hide (fun (W : World) (e0 : W.heap = w2.heap) => hR2.keep (w' := W) (by rw [e0]; omega) (fun k _ => by rw [e0]))
          clear hR2 hF2 hxc hx2 hk2 six hz2
          rw [List.length_map] at bs
          have KA := hide (fun (W wB : World) (u : Value) (e0 : W.heap = w2.heap) (hb : Below (cleared W g (i * 6)).heap.size (cleared W g (i * 6)) wB) => (⟨(gone_far hb hbg (by rw [e0]; exact hbl)).trans ((World.cell?_of_block (w := w2) (by rw [e0])).trans b3), (gone_far hb hsgg (by rw [e0]; exact hsgl)).trans ((World.cell?_of_block (w := w2) (by rw [e0])).trans bs), (gone_far hb hbg (by rw [e0]; exact hbl)).trans ((World.cell?_of_block (w := w2) (by rw [e0])).trans b0)⟩ :
            (wB.setCell ⟨g, i * 6 + 4, none⟩ u).cell? ⟨b, 3, none⟩ = some (.slice (some ⟨sg2, 0, none⟩) S'.n sc2) ∧ (wB.setCell ⟨g, i * 6 + 4, none⟩ u).cell? ⟨sg2, q, none⟩ = some (.slice (some ⟨g, 0, none⟩) l.length cap) ∧ (wB.setCell ⟨g, i * 6 + 4, none⟩ u).cell? ⟨b, 0, none⟩ = some (.int .i64 S'.n)))
          clear hsp
          go_wp2_with fail
          go_region_held3 (fun W => W.cell? ⟨b, 3, none⟩ = some (.slice (some ⟨sg2, 0, none⟩) S'.n sc2) ∧ W.cell? ⟨sg2, q, none⟩ = some (.slice (some ⟨g, 0, none⟩) l.length cap) ∧ W.cell? ⟨b, 0, none⟩ = some (.int .i64 S'.n))
            (first | exact KA.out w2.drew _ _ rfl hbz | exact ⟨b3, bs, b0⟩ | go_keep)
            (first | (go_at_call 154; refine (GN.out w2.drew rfl).mono ?_; rintro e w' ⟨rfl, gz, cz, wB, hbz, hoz, hgz, rfl⟩))
          go_wp2
          go_ret
          obtain ⟨RT, FT, GTT⟩ := GT.out wB ⟨hbz.os, hbz.tape, hbz.output, hbz.size, hbz.block⟩ gz cz hgz (List.replicate S'.n 0) _ hoz (by simp)
          simp only [List.set_set, List.length_map] at RT
          obtain ⟨ρf, Sf, fin⟩ := write_del T.out q hqn' g cap l HX.out i s HKS.out p HPI.out (A.c q + 1) (by have := HC0.out; omega) cw cl XC.out F2.out { tmSet q (A.c q + 1) s with there := false, text := ⟨#[]⟩, by_ := 0, num := 0, chv := .slice (some ⟨gz, 0, none⟩) S'.n cz, ch := List.replicate S'.n 0 } rfl rfl E2.out RT FT GTT
          exact ⟨ρf, Sf, ret_int E1.out.symm, fin⟩

end Go.Proofs.YtaelaldmibgibaaGreatDoor

namespace Go.Proofs.YtaelaldmibgibaaGreatDoor
open Go.RowKit

def Abs.listL (A : Abs) (r : Int) : List ByteArray := if A.out r = true then [] else (A.F r.toNat).map (·.1)
def Abs.listE (A : Abs) (r : Int) : Int := if A.out r = true then 1 else 0

def keysOf (ps : List ByteArray) (l : List SP) : List ByteArray := (rowF ps l).map (·.1)
theorem keysOf_snoc (ps : List ByteArray) (l : List SP) (k : Nat) (p : ByteArray) (s : SP) (hp : ps[k]? = some p) (hs : l[k]? = some s) :
    keysOf (ps.take (k + 1)) (l.take (k + 1)) = keysOf (ps.take k) (l.take k) ++ if s.there = true then [p] else [] := by
  obtain ⟨h1, rfl⟩ := List.getElem?_eq_some_iff.1 hp
  obtain ⟨h2, rfl⟩ := List.getElem?_eq_some_iff.1 hs
  unfold keysOf
  rw [List.take_succ_eq_append_getElem h1, List.take_succ_eq_append_getElem h2, rowF_split _ _ _ _ _ _ (by rw [List.length_take, List.length_take]; omega), List.map_append, List.map_append]
  have e : rowF [] [] = [] := rfl
  rw [e, List.map_nil, List.append_nil]
  unfold rowM
  split <;> rfl
theorem keysOf_le (ps : List ByteArray) (l : List SP) : (keysOf ps l).length ≤ ps.length := by
  unfold keysOf rowF
  rw [List.length_map, List.length_map]
  refine Nat.le_trans (List.length_filter_le _ _) ?_
  rw [List.length_zip]; omega

theorem ret_vi {v : Value} {x y : Int} (h : x = y) : Ending.returned (.tuple #[v, .int .i64 x]) = .returned (.tuple #[v, .int .i64 y]) := by rw [h]

set_option maxHeartbeats 600000 in
theorem refList_any (b : Nat) (r : Int) (ρ : Nat → Nat × Nat) (S : RS) (A : Abs) (w : World) (h : RefRep w b ρ S) (hI : RInv S A) (hm : S.paths.length ≤ 100000000) :
    Calls Tryz.prog 96 #[.pointer (some ⟨b, 0, none⟩), .int .i64 r] w fun e w' => ∃ v, e = .returned (.tuple #[v, .int .i64 (A.listE r)]) ∧ w'.ownsRow w.heap.size 9 1 v (A.listL r).length (svs (A.listL r)) ∧ Below w.heap.size w w' := by
  have b0 := h.c0
  cases ho : A.out r with
  | true =>
    have e1 : A.listE r = 1 := by unfold Abs.listE; rw [if_pos ho]
    have e2 : A.listL r = [] := by unfold Abs.listL; rw [if_pos ho]
    rw [e1, e2]
    unfold Abs.out at ho
    rw [hI.n] at ho
    simp at ho
    clear h hI e1 e2
    generalize S.n = n at *
    by_cases h1 : r < 0
    · have d1 : decide (r < 0) = true := by simp [h1]
      go_enter Tryz.func96, Tryz.ntmps96
      go_wp2
      go_ret2
      exact ⟨_, rfl, World.ownsRow_nil _ _ _ _, Below.refl _ _⟩
    · have d1 : decide (r < 0) = false := by simp; omega
      have h2 : (n : Int) ≤ r := by omega
      clear ho
      go_enter Tryz.func96, Tryz.ntmps96
      go_wp2
      go_ret2
      exact ⟨_, rfl, World.ownsRow_nil _ _ _ _, Below.refl _ _⟩
  | false =>
    have e1 : A.listE r = 0 := by unfold Abs.listE; rw [if_neg (by rw [ho]; simp)]
    have e2 : A.listL r = (A.F r.toNat).map (·.1) := by unfold Abs.listL; rw [if_neg (by rw [ho]; simp)]
    rw [e1, e2]
    obtain ⟨q, rfl, hq⟩ := out_nat ho
    rw [Int.toNat_natCast]
    have hqn : q < S.n := by rw [← hI.n]; exact hq
    have hn6 := h.n6
    obtain ⟨hml, a, cap, ep, hcp⟩ := strRow_form h.p
    have b1 := h.c1
    rw [ep] at b1
    obtain ⟨sg, sc, v, l, es, hs, hx, hrow, hro, hsg, _, _⟩ := h.theRow q hqn
    have b3 := h.c3
    rw [es] at b3
    have hll := hI.len q _ hx
    simp only at hll
    have HFL := hide (hI.files q v l hx)
    have hvf : ∃ av cv, v = .slice av S.paths.length cv := by
      rcases hrow.2 with ⟨e0, h00⟩ | ⟨g0, c0, cur, e0, _⟩
      · exact ⟨none, 0, by rw [e0, ← hll, h00]⟩
      · exact ⟨_, c0, by rw [e0, hll]⟩
    obtain ⟨av, cvv, rfl⟩ := hvf
    have SIX := hide (fun k s (hk : l[k]? = some s) => h.six q _ l hx k s hk)
    have HC := hide hcp
    have hbl : b < w.heap.size := h.lt b (by rw [h.rb]; decide)
    have HLL := hide hll
    unfold maxLen at hml
    clear h hI ho hq e1 e2 ep es hx hrow hro hcp hll
    have d1 : decide ((q : Int) < 0) = false := by simp
    generalize hN : S.n = n at *
    clear hN
    have d2 : decide (n ≤ q) = false := by simp; omega
    go_enter Tryz.func96, Tryz.ntmps96
    go_wp2
    clear d1 d2
    go_loopw [6, 7] (fun v i wr => ∃ k : Nat, k ≤ S.paths.length ∧ i = .int .i64 k ∧ wr.ownsRow w.heap.size 9 1 v (keysOf (S.paths.take k) (l.take k)).length (svs (keysOf (S.paths.take k) (l.take k))) ∧ Hid (Below w.heap.size w wr)) (fun _ i _ => S.paths.length - (intOf i).toNat)
    case atStart => exact ⟨0, Nat.zero_le _, rfl, World.ownsRow_nil _ _ _ _, Below.refl _ _⟩
    case round =>
      obtain ⟨k, hk, rfl, hown, hbw⟩ := hrel
      have b1w : wr.cell? ⟨b, 1, none⟩ = some (.slice a S.paths.length cap) := (hbw.out.cell (p := ⟨b, 1, none⟩) hbl).trans b1
      by_cases hlt : k < S.paths.length
      · obtain ⟨p, hp⟩ : ∃ p, S.paths[k]? = some p := ⟨S.paths[k], List.getElem?_eq_getElem hlt⟩
        have hkl : k < l.length := by rw [HLL.out]; exact hlt
        obtain ⟨s, hks⟩ : ∃ s, l[k]? = some s := ⟨l[k], List.getElem?_eq_getElem hkl⟩
        obtain ⟨g, rfl, hg, hcp⟩ := HC.out k p hp
        obtain ⟨g5, c5, _, _, _, _, ev, hg5, _, _, q0, _⟩ := SIX.out k s hks
        simp at ev
        obtain ⟨rfl, hmm, rfl⟩ := ev
        clear hmm
        have b3w : wr.cell? ⟨b, 3, none⟩ = some (.slice (some ⟨sg, 0, none⟩) n sc) := (hbw.out.cell (p := ⟨b, 3, none⟩) hbl).trans b3
        have bsw : wr.cell? ⟨sg, q, none⟩ = some (.slice (some ⟨g5, 0, none⟩) S.paths.length cvv) := (hbw.out.cell (p := ⟨sg, q, none⟩) hsg).trans hs
        have q0w : wr.cell? ⟨g5, k * 6, none⟩ = some (.bool s.there) := (hbw.out.cell (p := ⟨g5, k * 6, none⟩) hg5).trans q0
        have cpw : wr.cell? ⟨g, k, none⟩ = some (.string p) := (hbw.out.cell (p := ⟨g, k, none⟩) hg).trans hcp
        have hle := keysOf_le (S.paths.take k) (l.take k)
        have hle2 : (S.paths.take k).length ≤ k := List.length_take_le _ _
        have hbz := hbw.out.size
        have hlo := hide (World.ownsRow.lt hown)
        have E := hide (keysOf_snoc S.paths l k p s hp hks)
        clear b1 b3 hs q0 hcp hp hks
        generalize hL : (S.paths.take k).length = L at *
        clear hL
        cases ht : s.there with
        | true =>
          rw [ht] at q0w E
          rw [if_pos rfl] at E
          clear ht
          go_wp2_with (at_builtin; refine app_str _ rfl (.tmp 38) (.tmp 46) rfl w.heap.size _ _ _ rfl (hown.alloc _) wr.heap.size p rfl (by simp) (by omega) (by simp; omega) ?_; intro g2 c2 w2 ho2 hgr2 hat2 hl2)
          have hb2 := hide (grown_below (hbw.out.alloc hbw.out.size _) hgr2 (fun q hq => (hlo.out q hq).1))
          have O : Hid (w2.ownsRow w.heap.size 9 1 (.slice (some ⟨g2, 0, none⟩) ((keysOf (S.paths.take k) (l.take k)).length + 1) c2) (keysOf (S.paths.take (k + 1)) (l.take (k + 1))).length (svs (keysOf (S.paths.take (k + 1)) (l.take (k + 1))))) := by
            unfold Hid; rw [E.out, svs_append, List.length_append]; exact ho2
          clear hgr2 hat2 ho2 hown b1w b3w bsw q0w cpw
          go_wp2
          go_roundw
          case rel => exact ⟨k + 1, by omega, by go_num, O.out, hb2⟩
          case measure => simp [intOf]; omega
        | false =>
          rw [ht] at q0w E
          rw [if_neg (by simp), List.append_nil] at E
          clear ht
          have O := hide hown
          rw [← E.out] at O
          clear hown
          go_wp2
          go_roundw
          case rel => exact ⟨k + 1, by omega, by go_num, O.out, hbw⟩
          case measure => simp [intOf]; omega
      · have ek : k = S.paths.length := by omega
        have E : Hid (keysOf (S.paths.take k) (l.take k) = (A.F q).map (·.1)) := by
          unfold Hid
          rw [HFL.out, List.take_of_length_le (by omega), List.take_of_length_le (by rw [HLL.out]; omega)]
          rfl
        rw [E.out] at hown
        clear ek
        go_wp2
        go_ret2
        exact ⟨_, rfl, hown, hbw.out⟩

end Go.Proofs.YtaelaldmibgibaaGreatDoor

namespace Go.Proofs.YtaelaldmibgibaaGreatDoor
open Go.RowKit
attribute [local go_sem ↓] Go.wp_at_zero Go.wp_at_succ

theorem size_State : (Tryz.prog.info? 166).map (·.size) = some 3 := by kernel_rfl
theorem stState (p v : Value) : Instr.storeAt 166 p v = stM 166 p v := rfl
theorem run_stState (w : World) (b : Nat) (x0 x1 x2 : Int) (ht : w.there b 0 3) :
    (stM 166 (.pointer (some ⟨b, 0, none⟩)) (.agg #[.int .i64 x0, .int .i64 x1, .int .i64 x2])).run Tryz.prog w = .ok () (w.setCells b 0 [.int .i64 x0, .int .i64 x1, .int .i64 x2]) :=
  run_storeAt_mid w b 0 _ #[.int .i64 x0, .int .i64 x1, .int .i64 x2] ht size_State (by simp [Value.oneCell'])

set_option maxHeartbeats 600000 in
theorem kept_any (b q i : Nat) (ρ : Nat → Nat × Nat) (S : RS) (A : Abs) (w : World) (h : RefRep w b ρ S) (hI : RInv S A) (hq : q < S.n) (v : Value) (l : List SP) (hx : S.rows[q]? = some (v, l)) (s : SP) (hks : l[i]? = some s) :
    Calls Tryz.prog 94 #[.pointer (some ⟨b, 0, none⟩), .int .i64 q, .int .i64 i] w fun e w' => e = .returned (.bool s.there) ∧ ∃ nq, w' = w.drewN nq := by
  obtain ⟨g, cap, gc, cc, gt, ct, rfl, _, ec, et, q0, _, _, _, _, q5⟩ := h.six q v l hx i s hks
  obtain ⟨sg, sc, v', l', es, hs, hx', _⟩ := h.theRow q hq
  rw [hx] at hx'
  simp at hx'
  obtain ⟨rfl, rfl⟩ := hx'
  obtain ⟨cg, c1, gg, c2, c, ecv, hcc, hcx, hcl, _, _, _, _, _, _⟩ := h.common q hq
  have b2 := h.c2
  rw [ecv] at b2
  have b3 := h.c3
  rw [es] at b3
  have hsp := h.sp q _ hx s (List.mem_of_getElem? hks)
  have htm : s.tm = c := hI.tm q _ l _ c hx hcx s (List.mem_of_getElem? hks)
  have hn1 := h.n1
  have hn6 := h.n6
  have hil : i < l.length := (List.getElem?_eq_some_iff.1 hks).1
  have hml : l.length ≤ maxLen := by
    rcases (h.row q _ hx).1.2 with ⟨_, h0⟩ | ⟨_, cap', _, _, _, _, hc, hm, _⟩
    · simp only at h0; omega
    · simp only at hc; omega
  unfold maxLen at hml
  have hT := hsp.tm
  rw [et, htm] at hT
  have hC := (h.com q _ hcx).1
  simp only at hC
  have EQ : Hid (∀ nq, Calls Tryz.prog 164 #[.slice (some ⟨gt, 0, none⟩) S.n ct, .slice (some ⟨gg, 0, none⟩) S.n c2] (w.drewN nq) fun e w' => e = .returned (.bool true) ∧ ∃ m, w' = (w.drewN nq).drewN m) := by
    intro nq
    have := equal_any _ _ c c (w.drewN nq) (ownsRow_keep hT (fun _ _ => rfl)) (ownsRow_keep hC (fun _ _ => rfl)) rfl (by omega) (by omega)
    simpa using this
  clear hT hC hsp htm hcx hx es ecv h hI hks ec et
  generalize S.n = n at *
  go_enter Tryz.func94, Tryz.ntmps94
  go_wp2
  go_quiet ((go_at_call 164; exact Calls.quiet_of (EQ.out _)))
  cases ht : s.there with
  | true =>
    rw [ht] at q0
    go_wp2
    go_ret
    exact ⟨ret_bool ht.symm, _, rfl⟩
  | false =>
    rw [ht] at q0
    go_wp2
    go_ret
    exact ⟨ret_bool ht.symm, _, rfl⟩

def Abs.lookE (A : Abs) (r : Int) : Int := if A.out r = true then 1 else 0
/-- count, files, records -/
def Abs.lookV (A : Abs) (r : Int) : Value := if A.out r = true then .agg #[.int .i64 0, .int .i64 0, .int .i64 0] else .agg #[.int .i64 (A.c r.toNat), .int .i64 (A.F r.toNat).length, .int .i64 (A.F r.toNat).length]

attribute [local go_sem ↓] stState
attribute [local go_sem] run_stState

theorem mine_drewN {w : World} {k n : Nat} {W : World} (h : Mine w k n W) (m : Nat) : Mine w k n (W.drewN m) := ⟨⟨h.below.os, h.below.tape, h.below.output, h.below.size, h.below.block⟩, h.ge, h.lt, h.some, h.fz⟩
theorem ret_look {a b : Value} {x y : Int} (h : a = b) (h' : x = y) : Ending.returned (.tuple #[a, .int .i64 x]) = .returned (.tuple #[b, .int .i64 y]) := by rw [h, h']

set_option maxRecDepth 100000 in
set_option maxHeartbeats 1000000 in
theorem refLook_any (b : Nat) (r : Int) (ρ : Nat → Nat × Nat) (S : RS) (A : Abs) (w : World) (h : RefRep w b ρ S) (hI : RInv S A) (hm : S.paths.length ≤ 100000000) :
    Calls Tryz.prog 87 #[.pointer (some ⟨b, 0, none⟩), .int .i64 r] w fun e w' => e = .returned (.tuple #[A.lookV r, .int .i64 (A.lookE r)]) ∧ Below w.heap.size w w' := by
  have b0 := h.c0
  have hbl : b < w.heap.size := h.lt b (by rw [h.rb]; decide)
  have M0 := Mine.made' w #[.int .i64 0, .int .i64 0, .int .i64 0] 166 (n := 3) rfl
  cases ho : A.out r with
  | true =>
    have e1 : A.lookE r = 1 := by unfold Abs.lookE; rw [if_pos ho]
    have e2 : A.lookV r = .agg #[.int .i64 0, .int .i64 0, .int .i64 0] := by unfold Abs.lookV; rw [if_pos ho]
    rw [e1, e2]
    unfold Abs.out at ho
    rw [hI.n] at ho
    simp at ho
    clear h hI e1 e2
    have MT := M0.there
    have MB := hide M0
    clear M0
    generalize S.n = n at *
    by_cases h1 : r < 0
    · have d1 : decide (r < 0) = true := by simp [h1]
      go_enter Tryz.func87, Tryz.ntmps87
      go_wp2
      exact bodyPost_ret (ret_cell_tmp Tryz.results87 (a := ⟨w.heap.size, 0, none⟩) rfl (load_stored (cs := [_, _, _]) MB.out.there Tryz.underlying166 rfl size_State)) rfl ⟨rfl, (Mine.setCells (p := True) ⟨MB.out, trivial⟩ 0 _).below⟩
    · have d1 : decide (r < 0) = false := by simp; omega
      have h2 : (n : Int) ≤ r := by omega
      clear ho
      go_enter Tryz.func87, Tryz.ntmps87
      go_wp2
      exact bodyPost_ret (ret_cell_tmp Tryz.results87 (a := ⟨w.heap.size, 0, none⟩) rfl (load_stored (cs := [_, _, _]) MB.out.there Tryz.underlying166 rfl size_State)) rfl ⟨rfl, (Mine.setCells (p := True) ⟨MB.out, trivial⟩ 0 _).below⟩
  | false =>
    have e1 : A.lookE r = 0 := by unfold Abs.lookE; rw [if_neg (by rw [ho]; simp)]
    have e2 : A.lookV r = .agg #[.int .i64 (A.c r.toNat), .int .i64 (A.F r.toNat).length, .int .i64 (A.F r.toNat).length] := by unfold Abs.lookV; rw [if_neg (by rw [ho]; simp)]
    rw [e1, e2]
    obtain ⟨q, rfl, hq⟩ := out_nat ho
    rw [Int.toNat_natCast]
    have hqn : q < S.n := by rw [← hI.n]; exact hq
    have hn6 := h.n6
    obtain ⟨hml, a, cap, ep, hcp⟩ := strRow_form h.p
    have b1 := h.c1
    rw [ep] at b1
    obtain ⟨sg, sc, v, l, es, hs, hx, hrow, hro, hsg, _, _⟩ := h.theRow q hqn
    have hll := hI.len q _ hx
    simp only at hll
    have HFL : Hid ((A.F q).length = filesOf l) := by unfold Hid; rw [hI.files q v l hx, rowF_length _ _ (by omega)]
    obtain ⟨cg, c1, gg, c2, c, ecv, hcc, hcx, hcl, _, hgg, hcg, _, hcell, _⟩ := h.common q hqn
    have b2 := h.c2
    rw [ecv] at b2
    have hcnt := (hI.cnt q hqn).1
    have hcount : S.count q = c.getD q 0 := by unfold RS.count; rw [hcx]; rfl
    have bq := hcell q hqn
    rw [← hcount, ← hcnt] at bq
    have KE := hide (fun (W : World) (hM : Mine w w.heap.size 3 W) (k : Nat) s (hk : l[k]? = some s) => kept_any b q k ρ S A W (h.below hM.below) hI hqn v l hx s hk)
    have FI := hide (fun (W : World) (hM : Mine w w.heap.size 3 W) => files_any b q ρ S W (h.below hM.below) hqn)
    have CE := hide (fun (W : World) (hM : Mine w w.heap.size 3 W) => (⟨hM, (hM.below.cell (p := ⟨b, 2, none⟩) hbl).trans b2, (hM.below.cell (p := ⟨cg, q, none⟩) hcg).trans hcc, (hM.below.cell (p := ⟨gg, q, none⟩) hgg).trans bq, hM.there⟩ :
      Mine w w.heap.size 3 W ∧ W.cell? ⟨b, 2, none⟩ = some (.slice (some ⟨cg, 0, none⟩) S.n c1) ∧ W.cell? ⟨cg, q, none⟩ = some (.slice (some ⟨gg, 0, none⟩) S.n c2) ∧ W.cell? ⟨gg, q, none⟩ = some (.int .i64 (A.c q)) ∧ W.there w.heap.size 0 3))
    have HLL := hide hll
    have HXX := hide hx
    have MB := hide M0
    unfold maxLen at hml
    have hc9 := (hI.cnt q hqn).2
    clear h hI ho hq e1 e2 ep es hx hrow hro hcp hll M0 ecv hcx hcl hcell hcnt hcount bq hcc b2 hs
    have d1 : decide ((q : Int) < 0) = false := by simp
    generalize hN : S.n = n at *
    clear hN
    have d2 : decide (n ≤ q) = false := by simp; omega
    go_enter Tryz.func87, Tryz.ntmps87
    go_wp2
    clear d1 d2
    go_loopw [6, 7] (fun t i wr => ∃ k : Nat, k ≤ S.paths.length ∧ i = .int .i64 k ∧ t = .int .i64 (filesOf (l.take k)) ∧ Hid (Mine w w.heap.size 3 wr)) (fun _ i _ => S.paths.length - (intOf i).toNat)
    case atStart => exact ⟨0, Nat.zero_le _, rfl, by simp [filesOf], MB⟩
    case round =>
      obtain ⟨k, hk, rfl, rfl, hM⟩ := hrel
      have b1w : wr.cell? ⟨b, 1, none⟩ = some (.slice a S.paths.length cap) := (hM.out.below.cell (p := ⟨b, 1, none⟩) hbl).trans b1
      have hfl := filesOf_le (l.take k)
      have hfl2 : (l.take k).length ≤ k := List.length_take_le _ _
      generalize hf : filesOf (l.take k) = f at *
      have HF := hide hf
      clear hf
      generalize hL : (l.take k).length = L at *
      clear hL
      by_cases hlt : k < S.paths.length
      · have hkl : k < l.length := by rw [HLL.out]; exact hlt
        obtain ⟨s, hks⟩ : ∃ s, l[k]? = some s := ⟨l[k], List.getElem?_eq_getElem hkl⟩
        have F := hide (filesOf_take_succ l k s hks)
        have K := hide (KE.out wr hM.out k s hks)
        clear hks b1
        cases ht : s.there with
        | true =>
          rw [ht] at K F
          rw [if_pos rfl, HF.out] at F
          clear ht
          go_wp2_with (go_at_call 94; refine K.out.mono ?_; rintro e w' ⟨rfl, nq, rfl⟩)
          go_roundw
          case rel => exact ⟨k + 1, by omega, by go_num, by rw [F.out]; go_num, mine_drewN hM.out nq⟩
          case measure => simp [intOf]; omega
        | false =>
          rw [ht] at K F
          rw [if_neg (by simp), HF.out] at F
          clear ht
          go_wp2_with (go_at_call 94; refine K.out.mono ?_; rintro e w' ⟨rfl, nq, rfl⟩)
          go_roundw
          case rel => exact ⟨k + 1, by omega, by go_num, by rw [F.out]; go_num, mine_drewN hM.out nq⟩
          case measure => simp [intOf]; omega
      · have E : Hid (f = filesOf l) := by unfold Hid; rw [← HF.out, List.take_of_length_le (by rw [HLL.out]; omega)]
        clear b1 HF
        go_wp2_with fail
        have start := CE.out wr.drew hM.out.drew
        go_region_held3 (fun W => Mine w w.heap.size 3 W ∧ W.cell? ⟨b, 2, none⟩ = some (.slice (some ⟨cg, 0, none⟩) n c1) ∧ W.cell? ⟨cg, q, none⟩ = some (.slice (some ⟨gg, 0, none⟩) n c2) ∧ W.cell? ⟨gg, q, none⟩ = some (.int .i64 (A.c q)) ∧ W.there w.heap.size 0 3)
          (first | (refine CE.out _ ?_; first | with_reducible exact Mine.setCells (by assumption) _ _ | with_reducible exact And.left (by assumption)))
          (first | (go_at_call 60; refine (FI.out _ (And.left (by assumption))).mono ?_; rintro e w' ⟨v0, l0, hx0, rfl, rfl⟩; rw [HXX.out] at hx0; simp at hx0; obtain ⟨rfl, rfl⟩ := hx0))
        go_wp2
        refine bodyPost_ret (ret_cell_tmp Tryz.results87 (a := ⟨w.heap.size, 0, none⟩) rfl (load_stored (cs := [_, _, _]) start.1.there Tryz.underlying166 rfl size_State)) rfl ⟨?_, (Mine.setCells (p := True) ⟨start.1, trivial⟩ 0 _).below⟩
        exact ret_look (by rw [HFL.out, E.out]) rfl

end Go.Proofs.YtaelaldmibgibaaGreatDoor

namespace Go.Proofs.YtaelaldmibgibaaGreatDoor
open Go.RowKit
attribute [local go_sem ↓] Go.wp_at_zero Go.wp_at_succ

theorem info_ints : (Tryz.prog.info? 58).map (fun i => (i.zero, i.size, i.bytes)) = some (some (.slice none 0 0), 1, 24) := by kernel_rfl
theorem info_spots : (Tryz.prog.info? 112).map (fun i => (i.zero, i.size, i.bytes)) = some (some (.slice none 0 0), 1, 24) := by kernel_rfl

/-- c = append(c, y), of lists of integers, in a region that draws -/
theorem step_app_ints {ops : Array Oper} {o : Oper} {a : Act} {K : Act → World → Prop} {Q : Exit → Act → World → Prop} {E : Prop} (w : World) (hgd : o.guard = none) (s x : Operand) (ho : o.op = .call { callee := .builtin .append, args := #[s, x], argTypes := #[100, 100] }) (base : Nat) (v : Value) (n : Nat) (xs : List Value) (hs : a.eval s = v) (hown : w.ownsRow base 58 1 v n xs)
    (k : Nat) (ya : Option Addr) (yn yc : Nat) (hx : a.eval x = .slice (some ⟨k, 0, none⟩) 1 1) (hc : w.cell? ⟨k, 0, none⟩ = some (.slice ya yn yc)) (hn : n ≤ 1000000000000) (hb : base ≤ w.heap.size)
    (h : ∀ g cap w1, w1.ownsRow base 58 1 (.slice (some ⟨g, 0, none⟩) (n + 1) cap) (n + 1) (xs ++ [.slice ya yn yc]) → w.grownBy w1 v.ownBlock → (v.ownBlock = some g ∨ g = w.heap.size) → g < w1.heap.size → K (a.put o.dst (.slice (some ⟨g, 0, none⟩) (n + 1) cap)) w1) :
    if Region.wanted o (yielded ops a.tmps) = true then Oper.wp Tryz.prog o a w K Q else E := by
  obtain ⟨i0, hi, hz0, hz1, hz2⟩ := info_parts info_ints
  refine step_append_lies w hgd s x 100 ho base 58 i0 _ 1 24 Tryz.underlying100 hi hz0 hz1 hz2 rfl (by decide) v n xs hs hown ⟨k, 0, none⟩ 1 1 [.slice ya yn yc] hx rfl ?_ ?_ (by omega) (by unfold maxLen; omega) (by omega) hb _ rfl h
  · intro j u hj
    match j, hj with
    | 0, hj => simp at hj; subst hj; simpa [Addr.add] using hc
  · intro u hu; simp at hu; subst hu; rfl
theorem app_spots {ops : Array Oper} {rest : List Oper} {o : Oper} {a : Act} {Q : Exit → Act → World → Prop} (w : World) (hgd : o.guard = none) (s x : Operand) (ho : o.op = .call { callee := .builtin .append, args := #[s, x], argTypes := #[101, 101] }) (base : Nat) (v : Value) (n : Nat) (xs : List Value) (hs : a.eval s = v) (hown : w.ownsRow base 112 1 v n xs)
    (k : Nat) (ya : Option Addr) (yn yc : Nat) (hx : a.eval x = .slice (some ⟨k, 0, none⟩) 1 1) (hc : w.cell? ⟨k, 0, none⟩ = some (.slice ya yn yc)) (hn : n ≤ 1000000000000) (hb : base ≤ w.heap.size)
    (h : ∀ g cap w1, w1.ownsRow base 112 1 (.slice (some ⟨g, 0, none⟩) (n + 1) cap) (n + 1) (xs ++ [.slice ya yn yc]) → w.grownBy w1 v.ownBlock → (v.ownBlock = some g ∨ g = w.heap.size) → g < w1.heap.size → wpList Tryz.prog ops Q rest (a.put o.dst (.slice (some ⟨g, 0, none⟩) (n + 1) cap)) w1) :
    wpList Tryz.prog ops Q (o :: rest) a w := by
  obtain ⟨i0, hi, hz0, hz1, hz2⟩ := info_parts info_spots
  refine wpList_append_lies w hgd s x 101 ho base 112 i0 _ 1 24 Tryz.underlying101 hi hz0 hz1 hz2 rfl (by decide) v n xs hs hown ⟨k, 0, none⟩ 1 1 [.slice ya yn yc] hx rfl ?_ ?_ (by omega) (by unfold maxLen; omega) (by omega) hb _ rfl h
  · intro j u hj
    match j, hj with
    | 0, hj => simp at hj; subst hj; simpa [Addr.add] using hc
  · intro u hu; simp at hu; subst hu; rfl

/-- a net in the making: ci of its common times, si of its rows are there -/
structure Part (w0 w : World) (b n ci si : Nat) (ρ : Nat → Nat × Nat) (cw sw : Value) (cs : List Value) : Prop where
  below : Below w0.heap.size w0 w
  net : w.heap[b]? = some (.cells #[.int .i64 n, .slice none 0 0, cw, sw] 103 (0, 0))
  len : cs.length = ci
  c : w.ownsRow w0.heap.size 58 1 cw ci cs
  s : w.ownsRow w0.heap.size 112 1 sw si (List.replicate si (.slice none 0 0))
  com : ∀ r v, cs[r]? = some v → w.ownsRow w0.heap.size 3 1 v n (ivs (List.replicate n 0)) ∧ role ρ v (4, r)
  rb : ρ b = (1, 0)
  rc : role ρ cw (3, 0)
  rs : role ρ sw (8, 0)
  lt : ∀ k, (ρ k).1 ≠ 0 → k < w.heap.size ∧ w0.heap.size ≤ k

theorem Part.rep {w0 w : World} {b n : Nat} {ρ : Nat → Nat × Nat} {cw sw : Value} {cs : List Value} (h : Part w0 w b n n n ρ cw sw cs) (h1 : 1 ≤ n) (h6 : n ≤ 6) :
    RefRep w b ρ { n := n, paths := [], pv := .slice none 0 0, cv := cw, sv := sw, coms := cs.map (fun v => (v, List.replicate n 0)), rows := List.replicate n (.slice none 0 0, []) } where
  net := h.net
  n1 := h1
  n6 := h6
  p := World.ownsRow_nil _ _ _ _
  c := by
    have e : (cs.map (fun v => (v, List.replicate n (0 : Int)))).map (·.1) = cs := by rw [List.map_map]; exact List.map_id' cs
    rw [e]
    exact ownsRow_base h.c (fun _ _ => Nat.zero_le _)
  s := by
    rw [List.map_replicate]
    exact ownsRow_base h.s (fun _ _ => Nat.zero_le _)
  com := by
    intro r x hx
    rw [List.getElem?_map] at hx
    cases hc : cs[r]? with
    | none => rw [hc] at hx; cases hx
    | some v =>
      rw [hc] at hx
      simp at hx
      subst hx
      refine ⟨?_, by simp, (h.com r v hc).2⟩
      unfold intRow
      simp only [List.length_replicate]
      exact ownsRow_base (h.com r v hc).1 (fun _ _ => Nat.zero_le _)
  row := by
    intro r x hx
    have := List.mem_of_getElem? hx
    rw [List.mem_replicate] at this
    obtain ⟨_, rfl⟩ := this
    exact ⟨World.ownsRow_nil _ _ _ _, fun k hk => by cases hk⟩
  sp := by
    intro r x hx y hy
    have := List.mem_of_getElem? hx
    rw [List.mem_replicate] at this
    obtain ⟨_, rfl⟩ := this
    cases hy
  rb := h.rb
  rp := fun k hk => by cases hk
  rc := h.rc
  rs := h.rs
  lt := fun k hk => (h.lt k hk).1

theorem Part.free {w0 w : World} {b n ci si : Nat} {ρ : Nat → Nat × Nat} {cw sw : Value} {cs : List Value} (h : Part w0 w b n ci si ρ cw sw cs) {k : Nat} (hk : w.heap.size ≤ k) : (ρ k).1 = 0 := by
  by_cases e : (ρ k).1 = 0
  · exact e
  · have := (h.lt k e).1; omega

/-- one common time more -/
theorem Part.addCom {w0 w wz w1 : World} {b n i si : Nat} {ρ : Nat → Nat × Nat} {cw sw : Value} {cs : List Value} (h : Part w0 w b n i si ρ cw sw cs) (hb : Below w.heap.size w wz) (gz cz : Nat) (hz : wz.ownsRow w.heap.size 3 1 (.slice (some ⟨gz, 0, none⟩) n cz) n (ivs (List.replicate n 0))) (hzl : w.heap.size ≤ gz) (hzl' : gz < wz.heap.size) (o : Obj) (g cap : Nat)
    (ho : w1.ownsRow w0.heap.size 58 1 (.slice (some ⟨g, 0, none⟩) (i + 1) cap) (i + 1) (cs ++ [.slice (some ⟨gz, 0, none⟩) n cz])) (hg : (wz.alloc o).grownBy w1 cw.ownBlock) (hat : cw.ownBlock = some g ∨ g = (wz.alloc o).heap.size) :
    ∃ ρ', Part w0 (w1.setCell ⟨b, 2, none⟩ (.slice (some ⟨g, 0, none⟩) (i + 1) cap)) b n (i + 1) si ρ' (.slice (some ⟨g, 0, none⟩) (i + 1) cap) sw (cs ++ [.slice (some ⟨gz, 0, none⟩) n cz]) := by
  have hbl : b < w.heap.size := (h.lt b (by rw [h.rb]; decide)).1
  have hb0 : w0.heap.size ≤ b := (h.lt b (by rw [h.rb]; decide)).2
  have hwz := hb.size
  have hg01 := World.ownsRow.lt ho g rfl
  have hgcase : (ρ g = (3, 0) ∧ g < w.heap.size) ∨ wz.heap.size ≤ g := by
    rcases hat with q | q
    · exact .inl ⟨h.rc g q, (World.ownsRow.lt h.c g q).2⟩
    · right; rw [q]; simp
  have hgz : gz ≠ g := by rcases hgcase with ⟨_, q⟩ | q <;> omega
  have hbg : b ≠ g := by
    rcases hgcase with ⟨q, _⟩ | q
    · rintro rfl; rw [h.rb] at q; simp at q
    · omega
  have hbz : b ≠ gz := by omega
  have hρ : ∀ k, (ρ k).1 ≠ 0 → ρ k ≠ (3, 0) → upd (upd ρ gz (4, i)) g (3, 0) k = ρ k := by
    intro k h1 h2
    unfold upd
    rw [if_neg, if_neg]
    · rintro rfl; exact h1 (h.free hzl)
    · rintro rfl
      rcases hgcase with ⟨q, _⟩ | q
      · exact h2 q
      · exact h1 (h.free (by omega))
  have hrole : ∀ v x, role ρ v x → x.1 ≠ 0 → x ≠ (3, 0) → role (upd (upd ρ gz (4, i)) g (3, 0)) v x := fun v x hr h1 h2 k hk => by
    rw [hρ k (by rw [hr k hk]; exact h1) (by rw [hr k hk]; exact h2)]; exact hr k hk
  have hstep : ∀ k, k < wz.heap.size → cw.ownBlock ≠ some k → w1.heap[k]? = wz.heap[k]? := fun k hk hc => by
    rw [hg.block k (by simp; omega) (fun e => hc e.symm)]; exact Below.heap_alloc _ _ _ hk
  have hkeep : ∀ k, (ρ k).1 ≠ 0 → ρ k ≠ (3, 0) → k ≠ b → (w1.setCell ⟨b, 2, none⟩ (.slice (some ⟨g, 0, none⟩) (i + 1) cap)).heap[k]? = w.heap[k]? := fun k h1 h2 h3 => by
    have hk := (h.lt k h1).1
    rw [heap_set_other h3, hstep k (by omega) (fun e => h2 (h.rc k e))]
    exact hb.block k hk
  have hnb : w1.heap[b]? = w.heap[b]? := by
    rw [hstep b (by omega) (fun e => by have := h.rc b e; rw [h.rb] at this; simp at this)]
    exact hb.block b hbl
  have hbw : Below w0.heap.size w0 w1 := by
    have h1 := h.below.trans (hb.mono h.below.size)
    exact (h1.alloc h1.size o).grown hg (by simp; have := h1.size; omega) (fun k hk => (World.ownsRow.lt h.c k hk).1)
  refine ⟨upd (upd ρ gz (4, i)) g (3, 0), hbw.setCell hb0 _, ?_, by simp [h.len], ownsRow_keep ho (fun k hk => heap_set_other (by simp [Value.ownBlock] at hk; subst hk; exact Ne.symm hbg)), ?_, ?_, by rw [hρ b (by rw [h.rb]; decide) (by rw [h.rb]; decide)]; exact h.rb, ?_, hrole sw _ h.rs (by decide) (by decide), ?_⟩
  · have := heap_setCell_same w1 b 2 _ _ (.slice (some ⟨g, 0, none⟩) (i + 1) cap) (hnb.trans h.net)
    simpa using this
  · exact ownsRow_keep h.s (fun k hk => hkeep k (by rw [h.rs k hk]; decide) (by rw [h.rs k hk]; decide) (by rintro rfl; have := h.rs k hk; rw [h.rb] at this; simp at this))
  · intro r v hv
    by_cases hr : r < cs.length
    · rw [List.getElem?_append_left hr] at hv
      have q := h.com r v hv
      exact ⟨ownsRow_keep q.1 (fun k hk => hkeep k (by rw [q.2 k hk]; simp) (by rw [q.2 k hk]; simp) (by rintro rfl; have := q.2 k hk; rw [h.rb] at this; simp at this)), hrole v _ q.2 (by simp) (by simp)⟩
    · rw [List.getElem?_append_right (by omega)] at hv
      have hr' : r = cs.length := by
        have := (List.getElem?_eq_some_iff.1 hv).1
        simp at this; omega
      subst hr'
      simp at hv
      subst hv
      refine ⟨ownsRow_base (ownsRow_keep hz (fun k hk => ?_)) (fun k hk => ?_), ?_⟩
      · simp [Value.ownBlock] at hk
        subst hk
        rw [heap_set_other (Ne.symm hbz), hstep _ hzl' (fun e => by have := (World.ownsRow.lt h.c _ e).2; omega)]
      · simp [Value.ownBlock] at hk
        subst hk
        have := h.below.size
        omega
      · intro k hk
        simp [Value.ownBlock] at hk
        subst hk
        unfold upd
        rw [if_neg hgz, if_pos rfl, h.len]
  · intro k hk
    simp [Value.ownBlock] at hk
    subst hk
    unfold upd
    rw [if_pos rfl]
  · intro k hk
    rw [size_setCell]
    unfold upd at hk
    by_cases e1 : k = g
    · subst e1; exact ⟨hg01.2, hg01.1⟩
    · rw [if_neg e1] at hk
      by_cases e2 : k = gz
      · subst e2
        have := hg.size
        have := h.below.size
        simp at *
        omega
      · rw [if_neg e2] at hk
        have := h.lt k hk
        have := hg.size
        simp at *
        omega

/-- one row more, without spots -/
theorem Part.addRow {w0 w w1 : World} {b n ci i : Nat} {ρ : Nat → Nat × Nat} {cw sw : Value} {cs : List Value} (h : Part w0 w b n ci i ρ cw sw cs) (o : Obj) (g cap : Nat)
    (ho : w1.ownsRow w0.heap.size 112 1 (.slice (some ⟨g, 0, none⟩) (i + 1) cap) (i + 1) (List.replicate i (.slice none 0 0) ++ [.slice none 0 0])) (hg : (w.alloc o).grownBy w1 sw.ownBlock) (hat : sw.ownBlock = some g ∨ g = (w.alloc o).heap.size) :
    ∃ ρ', Part w0 (w1.setCell ⟨b, 3, none⟩ (.slice (some ⟨g, 0, none⟩) (i + 1) cap)) b n ci (i + 1) ρ' cw (.slice (some ⟨g, 0, none⟩) (i + 1) cap) cs := by
  have hbl : b < w.heap.size := (h.lt b (by rw [h.rb]; decide)).1
  have hb0 : w0.heap.size ≤ b := (h.lt b (by rw [h.rb]; decide)).2
  have hg01 := World.ownsRow.lt ho g rfl
  have hgcase : (ρ g = (8, 0) ∧ g < w.heap.size) ∨ w.heap.size ≤ g := by
    rcases hat with q | q
    · exact .inl ⟨h.rs g q, (World.ownsRow.lt h.s g q).2⟩
    · right; rw [q]; simp
  have hbg : b ≠ g := by
    rcases hgcase with ⟨q, _⟩ | q
    · rintro rfl; rw [h.rb] at q; simp at q
    · omega
  have hρ : ∀ k, (ρ k).1 ≠ 0 → ρ k ≠ (8, 0) → upd ρ g (8, 0) k = ρ k := by
    intro k h1 h2
    unfold upd
    rw [if_neg]
    rintro rfl
    rcases hgcase with ⟨q, _⟩ | q
    · exact h2 q
    · exact h1 (h.free q)
  have hrole : ∀ v x, role ρ v x → x.1 ≠ 0 → x ≠ (8, 0) → role (upd ρ g (8, 0)) v x := fun v x hr h1 h2 k hk => by
    rw [hρ k (by rw [hr k hk]; exact h1) (by rw [hr k hk]; exact h2)]; exact hr k hk
  have hstep : ∀ k, k < w.heap.size → sw.ownBlock ≠ some k → w1.heap[k]? = w.heap[k]? := fun k hk hc => by
    rw [hg.block k (by simp; omega) (fun e => hc e.symm)]; exact Below.heap_alloc _ _ _ hk
  have hkeep : ∀ k, (ρ k).1 ≠ 0 → ρ k ≠ (8, 0) → k ≠ b → (w1.setCell ⟨b, 3, none⟩ (.slice (some ⟨g, 0, none⟩) (i + 1) cap)).heap[k]? = w.heap[k]? := fun k h1 h2 h3 => by
    have hk := (h.lt k h1).1
    rw [heap_set_other h3, hstep k hk (fun e => h2 (h.rs k e))]
  have hnb : w1.heap[b]? = w.heap[b]? := hstep b hbl (fun e => by have := h.rs b e; rw [h.rb] at this; simp at this)
  have hbw : Below w0.heap.size w0 w1 :=
    (h.below.alloc h.below.size o).grown hg (by simp; have := h.below.size; omega) (fun k hk => (World.ownsRow.lt h.s k hk).1)
  refine ⟨upd ρ g (8, 0), hbw.setCell hb0 _, ?_, h.len, ?_, ?_, ?_, by rw [hρ b (by rw [h.rb]; decide) (by rw [h.rb]; decide)]; exact h.rb, hrole cw _ h.rc (by decide) (by decide), ?_, ?_⟩
  · have := heap_setCell_same w1 b 3 _ _ (.slice (some ⟨g, 0, none⟩) (i + 1) cap) (hnb.trans h.net)
    simpa using this
  · exact ownsRow_keep h.c (fun k hk => hkeep k (by rw [h.rc k hk]; decide) (by rw [h.rc k hk]; decide) (by rintro rfl; have := h.rc k hk; rw [h.rb] at this; simp at this))
  · rw [List.replicate_succ']
    exact ownsRow_keep ho (fun k hk => heap_set_other (by simp [Value.ownBlock] at hk; subst hk; exact Ne.symm hbg))
  · intro r v hv
    have q := h.com r v hv
    exact ⟨ownsRow_keep q.1 (fun k hk => hkeep k (by rw [q.2 k hk]; simp) (by rw [q.2 k hk]; simp) (by rintro rfl; have := q.2 k hk; rw [h.rb] at this; simp at this)), hrole v _ q.2 (by simp) (by simp)⟩
  · intro k hk
    simp [Value.ownBlock] at hk
    subst hk
    unfold upd
    rw [if_pos rfl]
  · intro k hk
    rw [size_setCell]
    unfold upd at hk
    by_cases e1 : k = g
    · subst e1; exact ⟨hg01.2, hg01.1⟩
    · rw [if_neg e1] at hk
      have := h.lt k hk
      have := hg.size
      simp at *
      omega

end Go.Proofs.YtaelaldmibgibaaGreatDoor
