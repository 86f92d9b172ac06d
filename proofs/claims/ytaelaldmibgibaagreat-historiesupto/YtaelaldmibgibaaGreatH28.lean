/- Histories: the pasts in memory: place, of a path that was not spoken of. Histories: pasts as values, and in blocks of their own. Histories: the pasts in memory: a cell of a past is set, a count is set, a list of events is new; Of. Histories: Of. Histories: the pasts in memory while one of them is changed. Histories: NewGhost. Histories: Does, of two files that were not made by the same events. Histories: Does, of two files that were made by the same events. Histories: Does, where one of them is not there. -/
import Derived.Test.YtaelaldmibgibaaGreatH22
import Derived.Deep.RegionLaw

set_option linter.unusedVariables false
set_option linter.unusedSimpArgs false
set_option linter.unusedSectionVars false
set_option maxHeartbeats 40000000
set_option maxRecDepth 100000

namespace Go.Proofs.YtaelaldmibgibaaGreat
open Go.RowKit
open Classical
section
variable {z : Nat} {w : World} {gb n : Nat} {ρ : Nat → Nat} {G : Gst} {D : GD}
theorem gplace_new (h : Gh z w gb n ρ G D (fun _ => G.ps)) (hzw : z ≤ w.heap.size) (p : ByteArray) (hp : p ∉ G.ps) (h0 : ∀ r, G.pa r p = yct) (hl : G.ps.length ≤ 100000000) :
  Calls Tryz.prog 31 #[.pointer (some ⟨gb, 0, none⟩), .string p] w fun e w' => e = .returned (.int .i64 G.ps.length) ∧ ∃ ρ' D', Gp z w w' gb n ρ ⟨G.c, G.ps ++ [p], G.pa⟩ D' (fun _ => G.ps ++ [p]) ρ' := by
 obtain ⟨a, cap, hpv⟩ := yam h.pr
 have k1 := h.c1
 rw [hpv] at k1
 have HP := yab (fun i x hi => h.path (i := i) (p := x) hi)
 rw [hpv] at HP
 have H := yab h
 have hgl := h.glt
 have hf := h.fz 1
 have hpr := h.pr
 rw [hpv] at hpr
 have HZ := yab h0
 have HPV := yab hpv
 clear h h0 hpv
 go_enter Tryz.func31, Tryz.ntmps31
 go_wp2
 go_loopw [5] (fun iv wr => ∃ i : Nat, i ≤ G.ps.length ∧ iv = .int .i64 i ∧ wr = w) (fun iv _ => G.ps.length - (intOf iv).toNat)
 case atStart => exact ⟨0, Nat.zero_le _, rfl, rfl⟩
 case round =>
  obtain ⟨i, hi, rfl, hwr⟩ := hrel
  replace hwr := hwr.symm
  subst hwr
  by_cases hil : i < G.ps.length
  ·have d1 : decide ((i : Int) < (G.ps.length : Int)) = true := by simp; omega
   obtain ⟨x, hx⟩ : ∃ x, G.ps[i]? = some x := ⟨_, List.getElem?_eq_getElem hil⟩
   obtain ⟨g, cap', e, hg, c0⟩ := HP.out i x hx
   cases e
   have hd : (x.toList == p.toList) = false := ydu (fun e => hp (by rw [← e]; exact List.mem_of_getElem? hx))
   clear HP hpr
   go_wp2
   go_roundw
   case rel => exact ⟨i + 1, by omega, by go_num, by first | rfl | trivial⟩
   case measure => simp [intOf]; omega
  ·have ei : i = G.ps.length := by omega
   subst ei
   have d1 : decide ((G.ps.length : Int) < (G.ps.length : Int)) = false := by simp
   clear HP
   have hpa : ∀ o, (w.alloc o).ownsRow 0 9 1 (.slice a G.ps.length cap) G.ps.length (svs G.ps) := fun o => yae hpr (fun k e => Below.heap_alloc _ _ _ (World.ownsRow.lt hpr k e).2)
   clear hpr
   have HA : Hid (∀ o, Gp z w (w.alloc o) gb n ρ G D (fun _ => G.ps) ρ) := fun o => (Gp.refl H.out).below ((Below.refl _ _).alloc (Nat.le_refl _) o)
   have HR : Hid (∀ o g2 c2 w9, World.ownsRow w9 0 9 1 (.slice (some ⟨g2, 0, none⟩) (G.ps.length + 1) c2) (G.ps.length + 1) (svs G.ps ++ [.string p]) → (w.alloc o).grownBy w9 (Value.slice a G.ps.length cap).ownBlock → ((Value.slice a G.ps.length cap).ownBlock = some g2 ∨ g2 = (w.alloc o).heap.size) →
     w9.cell? ⟨gb, 1, none⟩ = some (.slice a G.ps.length cap) ∧ w9.frozen? ⟨gb, 1, none⟩ = false ∧ ∃ D', Gp z w (w9.setCell ⟨gb, 1, none⟩ (.slice (some ⟨g2, 0, none⟩) (G.ps.length + 1) c2)) gb n ρ ⟨G.c, G.ps ++ [p], G.pa⟩ D' (fun _ => G.ps) (fun k => if k = g2 then 3 else ρ k)) := fun o g2 c2 w9 ho hgr hat => by
    have hA := (HA.out o)
    have ne : (some gb : Option Nat) ≠ (Value.slice a G.ps.length cap).ownBlock := fun e => by
     have := H.out.rp gb (by rw [HPV.out]; exact e.symm)
     rw [H.out.rb] at this
     cases this
    have kb := hgr.block gb hA.gh.glt ne
    refine ⟨(World.cell?_of_block (a := ⟨gb, 1, none⟩) kb).trans (by rw [hA.gh.c1, HPV.out]), (World.frozen?_of_block (a := ⟨gb, 1, none⟩) kb).trans (hA.gh.fz 1), _, hA.trans (hA.gh.repath (by simp; omega) ho (by rw [HPV.out]; exact hgr) (by rw [HPV.out]; rcases hat with y | y; exact .inl y; exact .inr (by omega)))⟩
   go_wp2_with (at_builtin; refine yrl _ rfl (.tmp 30) (.tmp 32) rfl 0 _ G.ps.length (svs G.ps) rfl (hpa _) w.heap.size p rfl (by simp) (by omega) (by omega) ?_; intro g2 c2 w9 ho9 hgr9 hat9 hl9; obtain ⟨e1, e2, D1, P9⟩ := HR.out _ g2 c2 w9 ho9 hgr9 hat9; have P9 := yab P9; clear ho9 hgr9 hat9 hl9)
   generalize hw : (w9.setCell ⟨gb, 1, none⟩ (.slice (some ⟨g2, 0, none⟩) (G.ps.length + 1) c2)) = v1 at *
   clear hw e1 e2 HR HA hpa k1 hf
   go_loopw [6] (fun iv wr => ∃ k : Nat, k ≤ n ∧ iv = .int .i64 k ∧ ∃ ρ2 D2, Hid (Gp z w wr gb n ρ ⟨G.c, G.ps ++ [p], G.pa⟩ D2 (fun i => if i < k then G.ps ++ [p] else G.ps) ρ2)) (fun iv _ => n - (intOf iv).toNat)
   case atStart => exact ⟨0, Nat.zero_le _, rfl, _, D1, P9⟩
   case round =>
    obtain ⟨k, hk, rfl, ρ2, D2, P2⟩ := hrel
    clear P9
    have q2 := P2.out.gh.c2
    obtain ⟨sg, sc, esv, hsl, hs4, hsr, hsf⟩ := P2.out.gh.rows
    rw [esv] at q2
    have hgl2 := P2.out.gh.glt
    have n6 := P2.out.gh.n6
    by_cases hkn : k < n
    ·have d2 : decide ((k : Int) < (n : Int)) = true := by simp; omega
     have cr := hsr k hkn
     have cf := hsf k
     have hown := P2.out.gh.rr k hkn
     rw [if_neg (Nat.lt_irrefl k)] at hown
     obtain ⟨ao, co, erv⟩ := yam hown
     have OA : Hid (∀ o, (wr.alloc o).ownsRow 0 86 6 (.slice ao G.ps.length co) G.ps.length (ymm ⟨G.c, G.ps ++ [p], G.pa⟩ D2 k G.ps)) := fun o => by
      rw [erv] at hown
      exact yae hown (fun k e => Below.heap_alloc _ _ _ (World.ownsRow.lt hown k e).2)
     have HA : Hid (∀ o, Gp z w (wr.alloc o) gb n ρ ⟨G.c, G.ps ++ [p], G.pa⟩ D2 (fun i => if i < k then G.ps ++ [p] else G.ps) ρ2) := fun o => P2.out.below ((Below.refl _ _).alloc (Nat.le_refl _) o)
     have HR : Hid (∀ o g2 c2 w9, World.ownsRow w9 0 86 6 (.slice (some ⟨g2, 0, none⟩) (G.ps.length + 1) c2) (G.ps.length + 1) (ymm ⟨G.c, G.ps ++ [p], G.pa⟩ D2 k G.ps ++ [.bool false, .string ⟨#[]⟩, .int .i64 0, .int .i64 0, .slice none 0 0, .slice none 0 0]) → (wr.alloc o).grownBy w9 (Value.slice ao G.ps.length co).ownBlock → ((Value.slice ao G.ps.length co).ownBlock = some g2 ∨ g2 = (wr.alloc o).heap.size) →
       w9.cell? ⟨gb, 2, none⟩ = some (.slice (some ⟨sg, 0, none⟩) n sc) ∧ w9.cell? ⟨sg, k, none⟩ = some (.slice ao G.ps.length co) ∧ w9.frozen? ⟨sg, k, none⟩ = false ∧ ∃ ρ3 D3, Gp z w (w9.setCell ⟨sg, k, none⟩ (.slice (some ⟨g2, 0, none⟩) (G.ps.length + 1) c2)) gb n ρ ⟨G.c, G.ps ++ [p], G.pa⟩ D3 (fun i => if i < k + 1 then G.ps ++ [p] else G.ps) ρ3) := fun o g2 c2 w9 ho hgr hat => by
      have hA := (HA.out o)
      have hs4' : ρ2 sg = 4 := hs4
      have neg : (some gb : Option Nat) ≠ (Value.slice ao G.ps.length co).ownBlock := fun e => by
       have := hA.gh.rw k hkn gb (by rw [erv]; exact e.symm)
       rw [hA.gh.rb] at this
       omega
      have nes : (some sg : Option Nat) ≠ (Value.slice ao G.ps.length co).ownBlock := fun e => by
       have := hA.gh.rw k hkn sg (by rw [erv]; exact e.symm)
       rw [hs4'] at this
       omega
      have kb := hgr.block gb hA.gh.glt neg
      have ks := hgr.block sg (hA.gh.lt sg (by rw [hs4']; decide)) nes
      obtain ⟨sg', sc', esv', _, _, hsr', hsf'⟩ := hA.gh.rows
      rw [esv] at esv'
      cases esv'
      have hq := hA.gh.rerow (p := p) (r := k) (g := g2) (cap := c2) (w1 := w9) (by have := hA.fr.size; omega) hkn esv (by show p ∉ (if k < k then _ else _); rw [if_neg (Nat.lt_irrefl k)]; exact hp) (HZ.out k) (by simp only [if_neg (Nat.lt_irrefl k)]; exact ho) (by rw [erv]; exact hgr) (by rw [erv]; rcases hat with y | y; exact .inl y; exact .inr (by omega))
      have e1 : (fun i => if i = k then (fun i => if i < k then G.ps ++ [p] else G.ps) k ++ [p] else (fun i => if i < k then G.ps ++ [p] else G.ps) i) = fun i => if i < k + 1 then G.ps ++ [p] else G.ps := by
       funext i
       simp only [if_neg (Nat.lt_irrefl k)]
       by_cases y : i = k
       ·rw [if_pos y, if_pos (by omega)]
       ·rw [if_neg y]
        by_cases y' : i < k
        ·simp only [if_pos y', if_pos (show i < k + 1 by omega)]
        ·simp only [if_neg y', if_neg (show ¬ i < k + 1 by omega)]
      rw [e1] at hq
      have e2 : ((fun i => if i < k then G.ps ++ [p] else G.ps) k).length = G.ps.length := by simp only [if_neg (Nat.lt_irrefl k)]
      rw [e2] at hq
      exact ⟨(World.cell?_of_block (a := ⟨gb, 2, none⟩) kb).trans (by rw [hA.gh.c2, esv]), (World.cell?_of_block (a := ⟨sg, k, none⟩) ks).trans (by rw [hsr' k hkn, erv]), (World.frozen?_of_block (a := ⟨sg, k, none⟩) ks).trans (hsf' k), _, _, hA.trans hq⟩
     rw [erv] at cr
     have z2 : ∀ o, (wr.alloc o).cell? ⟨gb, 2, none⟩ = some (.slice (some ⟨sg, 0, none⟩) n sc) := fun o => (World.cell?_alloc_old wr o ⟨gb, 2, none⟩ (by simp only; omega)).trans q2
     have z3 : ∀ o, (wr.alloc o).cell? ⟨sg, k, none⟩ = some (.slice ao G.ps.length co) := fun o => (World.cell?_alloc_old wr o ⟨sg, k, none⟩ (by simp only; omega)).trans cr
     clear hown hsr hsf
     go_wp2_with fail
     go_region_law (refine ypc _ (by rfl) (.tmp 56) (.tmp 58) (by rfl) 0 (.slice ao G.ps.length co) G.ps.length (ymm ⟨G.c, G.ps ++ [p], G.pa⟩ D2 k G.ps) (by rfl) (OA.out _) wr.heap.size (by rfl) (heap_alloc_new _ _) (by omega) (Nat.zero_le _) ?_; intro g2 c2 w9 ho9 hgr9 hat9 hl9; obtain ⟨e1, e2, e3, ρ3, D3, P9⟩ := HR.out _ g2 c2 w9 ho9 ⟨hgr9.os, hgr9.tape, hgr9.output, hgr9.size, hgr9.block⟩ hat9; have P9 := yab P9; clear ho9 hgr9 hat9 hl9)
     all_goals
      clear e1 e2 e3 HR HA OA z2 z3 q2 cr cf P2
      generalize hW : w9.setCell ⟨sg, k, none⟩ (.slice (some ⟨g2, 0, none⟩) (G.ps.length + 1) c2) = W at *
      clear hW
      go_wp2
      go_roundw
      case rel => exact ⟨k + 1, by omega, by go_num, _, _, P9⟩
      case measure => simp [intOf]; omega
    ·have ek : k = n := by omega
     subst ek
     have d2 : decide ((k : Int) < (k : Int)) = false := by simp
     have e1 := P2.out.gh.c1
     have e2 := yam P2.out.gh.pr
     obtain ⟨a3, c3, e3⟩ := e2
     rw [e3] at e1
     have e4 : (G.ps ++ [p]).length = G.ps.length + 1 := by simp
     have PF : Hid (∃ ρ' D', Gp z w wr gb k ρ ⟨G.c, G.ps ++ [p], G.pa⟩ D' (fun _ => G.ps ++ [p]) ρ') := ⟨ρ2, D2, by
      have g := P2.out.gh
      have qe : ∀ r < k, (if r < k then G.ps ++ [p] else G.ps) = G.ps ++ [p] := fun r hr => if_pos hr
      exact ⟨⟨g.n1, g.n6, g.blk, g.cr, g.pr, g.sr, fun r hr => by have := g.rr r hr; simp only [qe r hr] at this; exact this, fun r hr x hx => g.ev r hr x (by simp only [qe r hr]; exact hx), g.rb, g.rc, g.rp, g.rs, fun r hr x hx => g.re r hr x (by simp only [qe r hr]; exact hx), g.rw, g.lt, g.lo⟩, P2.out.fr, P2.out.new⟩⟩
     simp only at e1
     rw [e4] at e1
     clear P2 e3
     go_wp2
     go_ret
     exact ⟨by go_num, PF.out⟩
theorem ybg (h : Gh z w gb n ρ G D (fun _ => G.ps)) (hzw : z ≤ w.heap.size) (p : ByteArray) (h0 : p ∉ G.ps → ∀ r, G.pa r p = yct) (hl : G.ps.length ≤ 100000000) :
  Calls Tryz.prog 31 #[.pointer (some ⟨gb, 0, none⟩), .string p] w fun e w' => (∃ i : Nat, e = .returned (.int .i64 i) ∧ (yan p G.ps)[i]? = some p) ∧ ∃ ρ' D', Gp z w w' gb n ρ ⟨G.c, yan p G.ps, G.pa⟩ D' (fun _ => yan p G.ps) ρ' := by
 by_cases hp : p ∈ G.ps
 ·refine (ymz h p hp).mono ?_
  rintro e w' ⟨⟨i, rfl, hi⟩, rfl⟩
  have e : yan p G.ps = G.ps := by unfold yan; rw [if_pos hp]
  rw [e]
  exact ⟨⟨i, rfl, hi⟩, ρ, D, Gp.refl h⟩
 ·refine (gplace_new h hzw p hp (h0 hp) hl).mono ?_
  rintro e w' ⟨rfl, ρ', D', hP⟩
  have e : yan p G.ps = G.ps ++ [p] := by unfold yan; rw [if_neg hp]
  rw [e]
  exact ⟨⟨_, rfl, by simp⟩, ρ', D', hP⟩
end
end Go.Proofs.YtaelaldmibgibaaGreat

namespace Go.Proofs.YtaelaldmibgibaaGreat
open Go.RowKit
def pV (g : ycf) (m h : Value) : Value := .agg #[.bool g.there, .string g.text, .int .i64 g.birth.1, .int .i64 g.birth.2, m, h]
structure ygd (V : World) (b : Nat) (g : ycf) (m h : Value) : Prop where
 blk : V.heap[b]? = some (.cells #[.bool g.there, .string g.text, .int .i64 g.birth.1, .int .i64 g.birth.2, m, h] 86 (0, 0))
theorem ygd.lt {V : World} {b : Nat} {g : ycf} {m h : Value} (k : ygd V b g m h) : b < V.heap.size := by
 rcases Nat.lt_or_ge b V.heap.size with q | q
 ·exact q
 ·have := k.blk
  rw [Array.getElem?_eq_none q] at this
  cases this
theorem ygd.below {V V' : World} {b : Nat} {g : ycf} {m h : Value} (k : ygd V b g m h) (hb : Below V.heap.size V V') : ygd V' b g m h := ⟨(hb.block b k.lt).trans k.blk⟩
theorem ygd.cells {V : World} {b : Nat} {g : ycf} {m h : Value} (k : ygd V b g m h) : V.cell? ⟨b, 0, none⟩ = some (.bool g.there) ∧ V.cell? ⟨b, 1, none⟩ = some (.string g.text) ∧ V.cell? ⟨b, 2, none⟩ = some (.int .i64 g.birth.1) ∧ V.cell? ⟨b, 3, none⟩ = some (.int .i64 g.birth.2) ∧ V.cell? ⟨b, 4, none⟩ = some m ∧ V.cell? ⟨b, 5, none⟩ = some h := by
 simp only [World.cell?, k.blk]
 exact ⟨rfl, rfl, rfl, rfl, rfl, rfl⟩
structure P2 (w V : World) (t f : ycf) (mt ht mf hf : Value) : Prop where
 bel : Below w.heap.size w V
 a : ygd V w.heap.size t mt ht
 b : ygd V (w.heap.size + 1) f mf hf
theorem P2.more {w V V' : World} {t f : ycf} {mt ht mf hf : Value} (h : P2 w V t f mt ht mf hf) (hb : Below V.heap.size V V') : P2 w V' t f mt ht mf hf := ⟨ycp h.bel hb, h.a.below hb, h.b.below hb⟩
theorem P2.made (w : World) (t f : ycf) (mt ht mf hf : Value) : P2 w ((w.alloc (.cells #[.bool t.there, .string t.text, .int .i64 t.birth.1, .int .i64 t.birth.2, mt, ht] 86)).alloc (.cells #[.bool f.there, .string f.text, .int .i64 f.birth.1, .int .i64 f.birth.2, mf, hf] 86)) t f mt ht mf hf := by
 refine ⟨((Below.refl _ _).alloc (Nat.le_refl _) _).alloc (by simp) _, ⟨?_⟩, ⟨?_⟩⟩
 ·rw [Below.heap_alloc _ _ _ (by simp)]
  exact heap_alloc_new _ _
 ·have := heap_alloc_new (w.alloc (.cells #[.bool t.there, .string t.text, .int .i64 t.birth.1, .int .i64 t.birth.2, mt, ht] 86)) (.cells #[.bool f.there, .string f.text, .int .i64 f.birth.1, .int .i64 f.birth.2, mf, hf] 86)
  simpa using this
open Classical
theorem flat_set {α : Type} [DecidableEq α] (f : α → List Value) (hf : ∀ x, (f x).length = 6) (v : Value) (j : Nat) (hj : j < 6) : ∀ (l : List α) (i : Nat) (p : α), l.Nodup → l[i]? = some p → (l.map f).flatten.set (i * 6 + j) v = (l.map fun x => if x = p then (f p).set j v else f x).flatten
 |[], i, p, _, h => by simp at h
 |y :: l, 0, p, hn, h => by
  simp at h
  subst h
  obtain ⟨h1, _⟩ := List.nodup_cons.1 hn
  rw [List.map_cons, List.flatten_cons, List.map_cons, List.flatten_cons, if_pos rfl, List.set_append_left _ _ (by rw [hf]; omega), Nat.zero_mul, Nat.zero_add]
  congr 2
  apply List.map_congr_left
  intro x hx
  rw [if_neg (fun e => h1 (by rw [← e]; exact hx))]
 |y :: l, i + 1, p, hn, h => by
  obtain ⟨h1, h2⟩ := List.nodup_cons.1 hn
  have hl : l[i]? = some p := by simpa using h
  have ih := flat_set f hf v j hj l i p h2 hl
  have hy : ¬ y = p := fun e => h1 (by rw [e]; exact List.mem_of_getElem? hl)
  rw [List.map_cons, List.flatten_cons, List.map_cons, List.flatten_cons, if_neg hy, List.set_append_right _ _ (by rw [hf]; omega), hf, ← ih]
  congr 2
  omega
def GD.put (D : GD) (r : Nat) (p : ByteArray) (m h : Value) : GD := ⟨D.cv, D.pv, D.sv, D.rv, fun i x => if i = r ∧ x = p then m else D.mv i x, fun i x => if i = r ∧ x = p then h else D.hv i x⟩
section
variable {z : Nat} {w w' w0 : World} {gb n : Nat} {ρ ρ0 : Nat → Nat} {G : Gst} {D : GD} {q : List ByteArray}
theorem put_row {G : Gst} {D : GD} {q : List ByteArray} {r i : Nat} {p : ByteArray} (hnd : q.Nodup) (hi : q[i]? = some p) {j : Nat} (hj : j < 6) {v : Value} {g' : ycf} {m' h' : Value} (he : (yed (G.pa r p) (D.mv r p) (D.hv r p)).set j v = yed g' m' h') : (ymm G D r q).set (i * 6 + j) v = ymm ⟨G.c, G.ps, ybn G.pa r p g'⟩ (D.put r p m' h') r q := by
 unfold ymm
 rw [flat_set (fun p => yed (G.pa r p) (D.mv r p) (D.hv r p)) (fun _ => rfl) v j hj q i p hnd hi]
 congr 1
 apply List.map_congr_left
 intro x _
 by_cases e : x = p
 ·subst e
  rw [if_pos rfl, he]
  show yed g' m' h' = yed (ybn G.pa r x g' r x) (if r = r ∧ x = x then m' else _) (if r = r ∧ x = x then h' else _)
  rw [ydd, if_pos ⟨rfl, rfl⟩, if_pos ⟨rfl, rfl⟩]
 ·rw [if_neg e]
  show _ = yed (ybn G.pa r p g' r x) (if r = r ∧ x = p then m' else D.mv r x) (if r = r ∧ x = p then h' else D.hv r x)
  rw [yht e, if_neg (fun y => e y.2), if_neg (fun y => e y.2)]
theorem put_other {G : Gst} {D : GD} {q : List ByteArray} {r i : Nat} (h : i ≠ r) {p : ByteArray} {g' : ycf} {m' h' : Value} : ymm ⟨G.c, G.ps, ybn G.pa r p g'⟩ (D.put r p m' h') i q = ymm G D i q := by
 unfold ymm
 congr 1
 apply List.map_congr_left
 intro x _
 show yed (ybn G.pa r p g' i x) (if i = r ∧ x = p then m' else D.mv i x) (if i = r ∧ x = p then h' else D.hv i x) = _
 rw [ytg h, if_neg (fun y => h y.1), if_neg (fun y => h y.1)]
theorem Gp.put (P : Gp z w0 w gb n ρ0 G D (fun _ => q) ρ) (hnd : q.Nodup) {r : Nat} (hr : r < n) {i : Nat} {p : ByteArray} (hi : q[i]? = some p) {rg rc : Nat} (hrv : D.rv r = .slice (some ⟨rg, 0, none⟩) q.length rc) {j : Nat} (hj : j < 6) {v : Value} {g' : ycf} {m' h' : Value} (he : (yed (G.pa r p) (D.mv r p) (D.hv r p)).set j v = yed g' m' h') (ev : EvL w m' g'.made ∧ EvL w h' g'.heard) (ro : ybs ρ m' 5 ∧ ybs ρ h' 5) :
  Gp z w0 (w.setCell ⟨rg, i * 6 + j, none⟩ v) gb n ρ0 ⟨G.c, G.ps, ybn G.pa r p g'⟩ (D.put r p m' h') (fun _ => q) ρ := by
 have h := P.gh
 have hrg : ρ rg = 6 + r := h.rw r hr rg (by rw [hrv]; rfl)
 have ks : ∀ k, ρ k ≠ 6 + r → (w.setCell ⟨rg, i * 6 + j, none⟩ v).heap[k]? = w.heap[k]? := fun k h1 => Below.heap_setCell _ _ _ _ (fun e => h1 (by rw [show k = rg from e]; exact hrg))
 have hsz : (w.setCell ⟨rg, i * 6 + j, none⟩ v).heap.size = w.heap.size := by simp [World.setCell]
 refine P.trans ⟨⟨h.n1, h.n6, ?_, ?_, ?_, ?_, ?_, ?_, h.rb, h.rc, h.rp, h.rs, ?_, h.rw, ?_, h.lo⟩, ?_, fun k hk => .inl hk⟩
 ·rw [ks gb (by rw [h.rb]; omega)]; exact h.blk
 ·exact yae h.cr (fun k e => ks k (by rw [h.rc k e]; omega))
 ·exact yae h.pr (fun k e => ks k (by rw [h.rp k e]; omega))
 ·exact yae h.sr (fun k e => ks k (by rw [h.rs k e]; omega))
 ·intro s hs
  by_cases e : s = r
  ·subst e
   show World.ownsRow _ 0 _ 6 (D.rv s) q.length (ymm _ _ s q)
   rw [← put_row hnd hi hj he, hrv]
   have := h.rr s hs
   rw [hrv] at this
   exact yso this _ v
  ·show World.ownsRow _ 0 _ 6 (D.rv s) q.length (ymm _ _ s q)
   rw [put_other e]
   exact yae (h.rr s hs) (fun k e' => ks k (by rw [h.rw s hs k e']; omega))
 ·intro s hs x hx
  show EvL _ (if s = r ∧ x = p then m' else D.mv s x) (ybn G.pa r p g' s x).made ∧ EvL _ (if s = r ∧ x = p then h' else D.hv s x) (ybn G.pa r p g' s x).heard
  by_cases e : s = r ∧ x = p
  ·rw [if_pos e, if_pos e, e.1, e.2, ydd]
   exact ⟨yae ev.1 (fun k e' => ks k (by rw [ro.1 k e']; omega)), yae ev.2 (fun k e' => ks k (by rw [ro.2 k e']; omega))⟩
  ·rw [if_neg e, if_neg e]
   have : ybn G.pa r p g' s x = G.pa s x := by unfold ybn; rw [if_neg e]
   rw [this]
   exact ⟨yae (h.ev s hs x hx).1 (fun k e' => ks k (by rw [(h.re s hs x hx).1 k e']; omega)), yae (h.ev s hs x hx).2 (fun k e' => ks k (by rw [(h.re s hs x hx).2 k e']; omega))⟩
 ·intro s hs x hx
  show ybs ρ (if s = r ∧ x = p then m' else D.mv s x) 5 ∧ ybs ρ (if s = r ∧ x = p then h' else D.hv s x) 5
  by_cases e : s = r ∧ x = p
  ·rw [if_pos e, if_pos e]; exact ro
  ·rw [if_neg e, if_neg e]; exact h.re s hs x hx
 ·intro k hk; rw [hsz]; exact h.lt k hk
 ·exact (Fr.refl _ _).setCell (.inl (by rw [hrg]; omega)) _
theorem Gp.recount {Q : Nat → List ByteArray} (P : Gp z w0 w gb n ρ0 G D Q ρ) {r : Nat} (hr : r < n) {cg cc : Nat} (hcv : D.cv = .slice (some ⟨cg, 0, none⟩) n cc) (x : Int) :
  Gp z w0 (w.setCell ⟨cg, r, none⟩ (.int .i64 x)) gb n ρ0 ⟨fun i => if i = r then x else G.c i, G.ps, G.pa⟩ D Q ρ := by
 have h := P.gh
 have hcg : ρ cg = 2 := h.rc cg (by rw [hcv]; rfl)
 have ks : ∀ k, ρ k ≠ 2 → (w.setCell ⟨cg, r, none⟩ (.int .i64 x)).heap[k]? = w.heap[k]? := fun k h1 => Below.heap_setCell _ _ _ _ (fun e => h1 (by rw [show k = cg from e]; exact hcg))
 have hsz : (w.setCell ⟨cg, r, none⟩ (.int .i64 x)).heap.size = w.heap.size := by simp [World.setCell]
 refine P.trans ⟨⟨h.n1, h.n6, ?_, ?_, ?_, ?_, ?_, ?_, h.rb, h.rc, h.rp, h.rs, h.re, h.rw, ?_, h.lo⟩, ?_, fun k hk => .inl hk⟩
 ·rw [ks gb (by rw [h.rb]; decide)]; exact h.blk
 ·have h1 := h.cr
  rw [hcv] at h1
  have h2 := yso h1 r (.int .i64 x)
  rw [hcv]
  have e : (ivs ((List.range n).map G.c)).set r (.int .i64 x) = ivs ((List.range n).map fun i => if i = r then x else G.c i) := by
   rw [ivs_set]
   congr 1
   apply List.ext_getElem?
   intro j
   rw [List.getElem?_set]
   by_cases hj : r = j
   ·subst hj
    simp [hr]
   ·rw [if_neg hj, List.getElem?_map, List.getElem?_map]
    by_cases hjn : j < n
    ·rw [List.getElem?_range hjn]
     simp [Ne.symm hj]
    ·rw [List.getElem?_eq_none (by simpa using hjn)]
     rfl
  rw [← e]
  exact h2
 ·exact yae h.pr (fun k e => ks k (by rw [h.rp k e]; decide))
 ·exact yae h.sr (fun k e => ks k (by rw [h.rs k e]; decide))
 ·exact fun s hs => yae (h.rr s hs) (fun k e' => ks k (by rw [h.rw s hs k e']; omega))
 ·exact fun s hs y hy => ⟨yae (h.ev s hs y hy).1 (fun k e' => ks k (by rw [(h.re s hs y hy).1 k e']; decide)), yae (h.ev s hs y hy).2 (fun k e' => ks k (by rw [(h.re s hs y hy).2 k e']; decide))⟩
 ·intro k hk; rw [hsz]; exact h.lt k hk
 ·exact (Fr.refl _ _).setCell (.inl (by rw [hcg]; decide)) _
theorem Gp.made {Q : Nat → List ByteArray} (P : Gp z w0 w gb n ρ0 G D Q ρ) (hz : z ≤ w.heap.size) (hb : Below w.heap.size w w') {v : Value} (hv : ∀ k, v.ownBlock = some k → w.heap.size ≤ k ∧ k < w'.heap.size) :
  Gp z w0 w' gb n ρ0 G D Q (fun k => if v.ownBlock = some k then 5 else ρ k) ∧ ybs (fun k => if v.ownBlock = some k then 5 else ρ k) v 5 ∧ (∀ u x, x ≠ 0 → ybs ρ u x → ybs (fun k => if v.ownBlock = some k then 5 else ρ k) u x) := by
 have h := (P.below hb).gh
 have hl := P.gh.lt
 have kk : ∀ k, ρ k ≠ 0 → ¬ v.ownBlock = some k := fun k hk e => by have := (hv k e).1; have := hl k hk; omega
 have ro : ∀ u x, x ≠ 0 → ybs ρ u x → ybs (fun k => if v.ownBlock = some k then 5 else ρ k) u x := fun u x hx hu k e => by
  show (if v.ownBlock = some k then 5 else ρ k) = x
  have := hu k e
  rw [if_neg (kk k (by rw [this]; exact hx)), this]
 refine ⟨P.trans ⟨⟨h.n1, h.n6, h.blk, h.cr, h.pr, h.sr, h.rr, h.ev, ?_, ro _ _ (by decide) h.rc, ro _ _ (by decide) h.rp, ro _ _ (by decide) h.rs, fun s hs x hx => ⟨ro _ _ (by decide) (h.re s hs x hx).1, ro _ _ (by decide) (h.re s hs x hx).2⟩, fun s hs => ro _ _ (by omega) (h.rw s hs), fun k hk => ?_, fun k hk => ?_⟩, Fr.of_below hb, fun k hk => ?_⟩, fun k e => if_pos e, ro⟩
 ·show (if v.ownBlock = some gb then 5 else ρ gb) = 1
  rw [if_neg (kk gb (by rw [h.rb]; decide)), h.rb]
 ·change (if v.ownBlock = some k then 5 else ρ k) ≠ 0 at hk
  by_cases e : v.ownBlock = some k
  ·exact (hv k e).2
  ·rw [if_neg e] at hk; exact h.lt k hk
 ·change (if v.ownBlock = some k then 5 else ρ k) ≠ 0 at hk
  by_cases e : v.ownBlock = some k
  ·have := (hv k e).1; omega
  ·rw [if_neg e] at hk; exact h.lo k hk
 ·change (if v.ownBlock = some k then 5 else ρ k) ≠ 0 at hk
  by_cases e : v.ownBlock = some k
  ·exact .inr (hv k e).1
  ·rw [if_neg e] at hk; exact .inl hk
end
end Go.Proofs.YtaelaldmibgibaaGreat

namespace Go.Proofs.YtaelaldmibgibaaGreat
open Go.RowKit
open Classical
theorem yqx : (Tryz.prog.info? 86).map (·.size) = some 6 := by kernel_rfl
theorem stPast (p v : Value) : Instr.storeAt 86 p v = stM 86 p v := rfl
theorem ynj (w : World) (b o : Nat) (x0 : Bool) (x1 : ByteArray) (x2 x3 : Int) (a4 a5 : Option Addr) (n4 n5 c4 c5 : Nat) (ht : w.there b o 6) :
  (stM 86 (.pointer (some ⟨b, o, none⟩)) (.agg #[.bool x0, .string x1, .int .i64 x2, .int .i64 x3, .slice a4 n4 c4, .slice a5 n5 c5])).run Tryz.prog w = .ok () (w.setCells b o [.bool x0, .string x1, .int .i64 x2, .int .i64 x3, .slice a4 n4 c4, .slice a5 n5 c5]) :=
 run_storeAt_mid w b o _ #[.bool x0, .string x1, .int .i64 x2, .int .i64 x3, .slice a4 n4 c4, .slice a5 n5 c5] ht yqx (by simp [Value.oneCell'])
theorem Fr.setCellsG {S : Nat → Prop} {a w : World} (h : Fr S a w) {b : Nat} (hp : S b ∨ a.heap.size ≤ b) (o : Nat) (vs : List Value) : Fr S a (w.setCells b o vs) := by
 induction vs generalizing o w with
 |nil => exact h
 |cons v vs ih => exact ih (h.setCell (p := ⟨b, o, none⟩) hp v) (o + 1)
theorem ygd.fz {V : World} {b : Nat} {g : ycf} {m h : Value} (k : ygd V b g m h) (j : Nat) : V.frozen? ⟨b, j, none⟩ = false := by simp [World.frozen?, k.blk]
theorem ygd.there {V : World} {b : Nat} {g : ycf} {m h : Value} (k : ygd V b g m h) : V.there b 0 6 := by
 obtain ⟨k0, k1, k2, k3, k4, k5⟩ := k.cells
 intro j hj
 refine ⟨?_, k.fz _⟩
 match j, hj with
 |0, _ => simp [k0]
 |1, _ => simp [k1]
 |2, _ => simp [k2]
 |3, _ => simp [k3]
 |4, _ => simp [k4]
 |5, _ => simp [k5]
theorem ygd.set {V : World} {b : Nat} {g : ycf} {m h : Value} (k : ygd V b g m h) (g' : ycf) (m' h' : Value) : ygd (V.setCells b 0 (yed g' m' h')) b g' m' h' := by
 have h1 := heap_setCell_same _ b 0 _ _ (.bool g'.there) k.blk
 have h2 := heap_setCell_same _ b 1 _ _ (.string g'.text) h1
 have h3 := heap_setCell_same _ b 2 _ _ (.int .i64 g'.birth.1) h2
 have h4 := heap_setCell_same _ b 3 _ _ (.int .i64 g'.birth.2) h3
 have h5 := heap_setCell_same _ b 4 _ _ m' h4
 have h6 := heap_setCell_same _ b 5 _ _ h' h5
 exact ⟨h6⟩
theorem ygd.hear {V : World} {b : Nat} {g : ycf} {m h : Value} (k : ygd V b g m h) (l : List Ev) (u : Value) : ygd (V.setCell ⟨b, 5, none⟩ u) b ⟨g.there, g.text, g.birth, g.made, l⟩ m u := ⟨heap_setCell_same _ b 5 _ _ u k.blk⟩
section
variable {z : Nat} {w : World} {gb n : Nat} {ρ : Nat → Nat} {G : Gst} {D : GD} {q : List ByteArray}
theorem Gh.six (h : Gh z w gb n ρ G D (fun _ => q)) {r : Nat} (hr : r < n) {i : Nat} {p : ByteArray} (hi : q[i]? = some p) : ∃ sg sc rg rc, D.sv = .slice (some ⟨sg, 0, none⟩) n sc ∧ D.rv r = .slice (some ⟨rg, 0, none⟩) q.length rc ∧ w.cell? ⟨gb, 2, none⟩ = some (.slice (some ⟨sg, 0, none⟩) n sc) ∧ w.cell? ⟨sg, r, none⟩ = some (.slice (some ⟨rg, 0, none⟩) q.length rc) ∧
  w.cell? ⟨rg, i * 6, none⟩ = some (.bool (G.pa r p).there) ∧ w.cell? ⟨rg, i * 6 + 1, none⟩ = some (.string (G.pa r p).text) ∧ w.cell? ⟨rg, i * 6 + 2, none⟩ = some (.int .i64 (G.pa r p).birth.1) ∧ w.cell? ⟨rg, i * 6 + 3, none⟩ = some (.int .i64 (G.pa r p).birth.2) ∧ w.cell? ⟨rg, i * 6 + 4, none⟩ = some (D.mv r p) ∧ w.cell? ⟨rg, i * 6 + 5, none⟩ = some (D.hv r p) ∧
  sg < w.heap.size ∧ rg < w.heap.size ∧ ρ sg = 4 ∧ ρ rg = 6 + r ∧ (∀ k, w.frozen? ⟨rg, k, none⟩ = false) ∧ i < q.length ∧ q.length ≤ 9223372036854775807 := by
 obtain ⟨sg, sc, e1, l1, r1, c1, _⟩ := h.rows
 obtain ⟨rg, rc, e2, l2, r2, c2, f2⟩ := h.past hr (i := i) (p := p) hi
 exact ⟨sg, sc, rg, rc, e1, e2, by rw [h.c2, e1], by rw [c1 r hr, e2], c2 0 (by omega), c2 1 (by omega), c2 2 (by omega), c2 3 (by omega), c2 4 (by omega), c2 5 (by omega), l1, l2, r1, r2, f2, (List.getElem?_eq_some_iff.1 hi).1, yta (h.rr r hr)⟩
attribute [local go_sem ↓] stPast
attribute [local go_sem] ynj
end
end Go.Proofs.YtaelaldmibgibaaGreat

namespace Go.Proofs.YtaelaldmibgibaaGreat
open Go.RowKit
open Classical
theorem ybz (w : World) (a : Addr) (v : Value) : (w.setCell a v).heap.size = w.heap.size := by simp [World.setCell]
theorem EvL.one {V : World} {b r : Nat} {x : Int} (h : V.heap[b]? = some (.cells #[.int .i64 r, .int .i64 x] 82 (0, 0))) : EvL V (.slice (some ⟨b, 0, none⟩) 1 1) [(r, x)] :=
 ⟨rfl, .inr ⟨b, 1, _, rfl, Nat.zero_le _, h, Nat.le_refl _, by unfold maxLen; omega, rfl, rfl⟩⟩
theorem ybr {V : World} {m : Value} {l : List Ev} {b r : Nat} {x : Int} (hm : EvL V m l) (hl : l.length ≤ 500000000) (h : V.heap[b]? = some (.cells #[.int .i64 r, .int .i64 x] 82 (0, 0))) :
  Calls Tryz.prog 32 #[m, .slice (some ⟨b, 0, none⟩) 1 1] V fun e w' => ∃ u, e = .returned u ∧ w'.ownsRow V.heap.size 82 2 u (yaa l [(r, x)]).length (evs (yaa l [(r, x)])) ∧ Below V.heap.size V w' :=
 ybh m _ l [(r, x)] V hm (EvL.one h) (by simp; omega)
theorem Gp.drew {z : Nat} {w W : World} {gb n : Nat} {ρ ρ' : Nat → Nat} {G : Gst} {D : GD} {Q : Nat → List ByteArray} (P : Gp z w W gb n ρ G D Q ρ') : Gp z w W.drew gb n ρ G D Q ρ' := ⟨P.gh.keep (Nat.le_refl _) (fun _ _ => rfl), P.fr.drew, P.new⟩
theorem four (V : World) (o1 o2 o3 o4 : Obj) : ((((V.alloc o1).alloc o2).alloc o3).alloc o4).heap[V.heap.size]? = some o1 ∧ ((((V.alloc o1).alloc o2).alloc o3).alloc o4).heap[V.heap.size + 1]? = some o2 ∧ ((((V.alloc o1).alloc o2).alloc o3).alloc o4).heap[V.heap.size + 1 + 1]? = some o3 ∧ ((((V.alloc o1).alloc o2).alloc o3).alloc o4).heap[V.heap.size + 1 + 1 + 1]? = some o4 ∧ ((((V.alloc o1).alloc o2).alloc o3).alloc o4).heap.size = V.heap.size + 4 := by
 have s1 : (V.alloc o1).heap.size = V.heap.size + 1 := by simp
 have s2 : ((V.alloc o1).alloc o2).heap.size = V.heap.size + 1 + 1 := by simp
 have s3 : (((V.alloc o1).alloc o2).alloc o3).heap.size = V.heap.size + 1 + 1 + 1 := by simp
 have h1 := heap_alloc_new V o1
 have h2 := heap_alloc_new (V.alloc o1) o2
 have h3 := heap_alloc_new ((V.alloc o1).alloc o2) o3
 have h4 := heap_alloc_new (((V.alloc o1).alloc o2).alloc o3) o4
 rw [s1] at h2
 rw [s2] at h3
 rw [s3] at h4
 refine ⟨?_, ?_, ?_, h4, by simp⟩
 ·rw [Below.heap_alloc _ _ _ (by omega), Below.heap_alloc _ _ _ (by omega), Below.heap_alloc _ _ _ (by omega)]; exact h1
 ·rw [Below.heap_alloc _ _ _ (by omega), Below.heap_alloc _ _ _ (by omega)]; exact h2
 ·rw [Below.heap_alloc _ _ _ (by omega)]; exact h3
theorem yfg (f : Nat → ByteArray → ycf) (r : Nat) (p : ByteArray) : ybn f r p (f r p) = f := by
 funext i x
 unfold ybn
 split
 ·next e => rw [e.1, e.2]
 ·rfl
theorem yth (f : Nat → ByteArray → ycf) (r : Nat) (p : ByteArray) (a b : ycf) : ybn (ybn f r p a) r p b = ybn f r p b := by
 funext i x
 unfold ybn
 split
 ·rfl
 ·rfl
def Gw (z : Nat) (w0 W : World) (gb n : Nat) (ρ0 ρ : Nat → Nat) (c : Nat → Int) (q : List ByteArray) (f : Nat → ByteArray → ycf) (r : Nat) (p : ByteArray) (i rg rc : Nat) (g : ycf) (m h : Value) : Prop :=
 ∃ D, Gp z w0 W gb n ρ0 ⟨c, q, ybn f r p g⟩ D (fun _ => q) ρ ∧ q.Nodup ∧ r < n ∧ q[i]? = some p ∧ D.rv r = .slice (some ⟨rg, 0, none⟩) q.length rc ∧ D.mv r p = m ∧ D.hv r p = h
section
variable {z : Nat} {w0 W W' : World} {gb n : Nat} {ρ0 ρ : Nat → Nat} {c : Nat → Int} {q : List ByteArray} {f : Nat → ByteArray → ycf} {r : Nat} {p : ByteArray} {i rg rc : Nat} {g : ycf} {m h : Value}
theorem Gw.start {D : GD} (P : Gp z w0 W gb n ρ0 ⟨c, q, f⟩ D (fun _ => q) ρ) (hnd : q.Nodup) (hr : r < n) (hi : q[i]? = some p) (hrv : D.rv r = .slice (some ⟨rg, 0, none⟩) q.length rc) : Gw z w0 W gb n ρ0 ρ c q f r p i rg rc (f r p) (D.mv r p) (D.hv r p) :=
 ⟨D, by rw [yfg]; exact P, hnd, hr, hi, hrv, rfl, rfl⟩
theorem Gw.gp (k : Gw z w0 W gb n ρ0 ρ c q f r p i rg rc g m h) : ∃ D, Gp z w0 W gb n ρ0 ⟨c, q, ybn f r p g⟩ D (fun _ => q) ρ := k.imp fun _ y => y.1
theorem Gw.ev (k : Gw z w0 W gb n ρ0 ρ c q f r p i rg rc g m h) : (EvL W m g.made ∧ EvL W h g.heard) ∧ ybs ρ m 5 ∧ ybs ρ h 5 := by
 obtain ⟨D, P, hnd, hr, hi, hrv, rfl, rfl⟩ := k
 have h1 := P.gh.ev r hr p (List.mem_of_getElem? hi)
 have h2 := P.gh.re r hr p (List.mem_of_getElem? hi)
 simp only [ydd] at h1
 exact ⟨h1, h2⟩
theorem Gw.put (k : Gw z w0 W gb n ρ0 ρ c q f r p i rg rc g m h) {j : Nat} (hj : j < 6) {v : Value} {g' : ycf} {m' h' : Value} (he : (yed g m h).set j v = yed g' m' h') (ev : EvL W m' g'.made ∧ EvL W h' g'.heard) (ro : ybs ρ m' 5 ∧ ybs ρ h' 5) : Gw z w0 (W.setCell ⟨rg, i * 6 + j, none⟩ v) gb n ρ0 ρ c q f r p i rg rc g' m' h' := by
 obtain ⟨D, P, hnd, hr, hi, hrv, rfl, rfl⟩ := k
 have := P.put hnd hr hi hrv hj (v := v) (g' := g') (m' := m') (h' := h') (by simp only [ydd]; exact he) ev ro
 simp only [yth] at this
 refine ⟨_, this, hnd, hr, hi, hrv, ?_, ?_⟩
 ·show (if r = r ∧ p = p then m' else _) = m'; rw [if_pos ⟨rfl, rfl⟩]
 ·show (if r = r ∧ p = p then h' else _) = h'; rw [if_pos ⟨rfl, rfl⟩]
theorem Gw.there (k : Gw z w0 W gb n ρ0 ρ c q f r p i rg rc g m h) (b : Bool) : Gw z w0 (W.setCell ⟨rg, i * 6, none⟩ (.bool b)) gb n ρ0 ρ c q f r p i rg rc ⟨b, g.text, g.birth, g.made, g.heard⟩ m h := k.put (j := 0) (by omega) rfl k.ev.1 k.ev.2
theorem Gw.text (k : Gw z w0 W gb n ρ0 ρ c q f r p i rg rc g m h) (t : ByteArray) : Gw z w0 (W.setCell ⟨rg, i * 6 + 1, none⟩ (.string t)) gb n ρ0 ρ c q f r p i rg rc ⟨g.there, t, g.birth, g.made, g.heard⟩ m h := k.put (j := 1) (by omega) rfl k.ev.1 k.ev.2
theorem Gw.birth (k : Gw z w0 W gb n ρ0 ρ c q f r p i rg rc g m h) (e : Ev) : Gw z w0 ((W.setCell ⟨rg, i * 6 + 2, none⟩ (.int .i64 e.1)).setCell ⟨rg, i * 6 + 2 + 1, none⟩ (.int .i64 e.2)) gb n ρ0 ρ c q f r p i rg rc ⟨g.there, g.text, e, g.made, g.heard⟩ m h := by
 have k1 := k.put (j := 2) (v := .int .i64 e.1) (g' := ⟨g.there, g.text, (e.1, g.birth.2), g.made, g.heard⟩) (by omega) rfl k.ev.1 k.ev.2
 exact k1.put (j := 3) (by omega) rfl k1.ev.1 k1.ev.2
theorem Gw.made (k : Gw z w0 W gb n ρ0 ρ c q f r p i rg rc g m h) {v : Value} {l : List Ev} (hv : EvL W v l) (ro : ybs ρ v 5) : Gw z w0 (W.setCell ⟨rg, i * 6 + 4, none⟩ v) gb n ρ0 ρ c q f r p i rg rc ⟨g.there, g.text, g.birth, l, g.heard⟩ v h := k.put (j := 4) (by omega) rfl ⟨hv, k.ev.1.2⟩ ⟨ro, k.ev.2.2⟩
theorem Gw.heard (k : Gw z w0 W gb n ρ0 ρ c q f r p i rg rc g m h) {v : Value} {l : List Ev} (hv : EvL W v l) (ro : ybs ρ v 5) : Gw z w0 (W.setCell ⟨rg, i * 6 + 5, none⟩ v) gb n ρ0 ρ c q f r p i rg rc ⟨g.there, g.text, g.birth, g.made, l⟩ m v := k.put (j := 5) (by omega) rfl ⟨k.ev.1.1, hv⟩ ⟨k.ev.2.1, ro⟩
theorem Gw.unmade (k : Gw z w0 W gb n ρ0 ρ c q f r p i rg rc g m h) : Gw z w0 (W.setCell ⟨rg, i * 6 + 4, none⟩ (.slice none 0 0)) gb n ρ0 ρ c q f r p i rg rc ⟨g.there, g.text, g.birth, [], g.heard⟩ (.slice none 0 0) h := k.made (World.ownsRow_nil _ _ _ _) (fun _ e => (by cases e))
theorem Gw.below (k : Gw z w0 W gb n ρ0 ρ c q f r p i rg rc g m h) (hb : Below W.heap.size W W') : Gw z w0 W' gb n ρ0 ρ c q f r p i rg rc g m h := by
 obtain ⟨D, P, y⟩ := k
 exact ⟨D, P.below hb, y⟩
theorem Gw.alloc (k : Gw z w0 W gb n ρ0 ρ c q f r p i rg rc g m h) (o : Obj) : Gw z w0 (W.alloc o) gb n ρ0 ρ c q f r p i rg rc g m h := k.below ((Below.refl _ _).alloc (Nat.le_refl _) o)
theorem Gw.fresh (k : Gw z w0 W gb n ρ0 ρ c q f r p i rg rc g m h) (hz : z ≤ W.heap.size) (hb : Below W.heap.size W W') {v : Value} {l : List Ev} (hv : W'.ownsRow W.heap.size 82 2 v l.length (evs l)) : ∃ ρ', Gw z w0 W' gb n ρ0 ρ' c q f r p i rg rc g m h ∧ EvL W' v l ∧ ybs ρ' v 5 ∧ ∀ x, ρ x = 0 → x < W.heap.size → ρ' x = 0 := by
 obtain ⟨D, P, y⟩ := k
 obtain ⟨P', ro, _⟩ := P.made hz hb (World.ownsRow.lt hv)
 refine ⟨_, ⟨D, P', y⟩, EvL.own hv, ro, fun x hx hlt => ?_⟩
 show (if v.ownBlock = some x then 5 else ρ x) = 0
 rw [if_neg (fun e => by have := (World.ownsRow.lt hv x e).1; omega)]
 exact hx
theorem Gw.fresh2 (k : Gw z w0 W gb n ρ0 ρ c q f r p i rg rc g m h) (hz : z ≤ W.heap.size) (hb : Below W.heap.size W W') {v : Value} {l : List Ev} (hv : W'.ownsRow W.heap.size 82 2 v l.length (evs l)) : ∃ ρ', Gw z w0 W' gb n ρ0 ρ' c q f r p i rg rc g m h ∧ EvL W' v l ∧ ybs ρ' v 5 ∧ (∀ x, ρ x = 0 → x < W.heap.size → ρ' x = 0) ∧ ∀ u x, x ≠ 0 → ybs ρ u x → ybs ρ' u x := by
 obtain ⟨D, P, y⟩ := k
 obtain ⟨P', ro, r2⟩ := P.made hz hb (World.ownsRow.lt hv)
 refine ⟨_, ⟨D, P', y⟩, EvL.own hv, ro, fun x hx hlt => ?_, r2⟩
 show (if v.ownBlock = some x then 5 else ρ x) = 0
 rw [if_neg (fun e => by have := (World.ownsRow.lt hv x e).1; omega)]
 exact hx
theorem Gw.away (k : Gw z w0 W gb n ρ0 ρ c q f r p i rg rc g m h) {b : Nat} (hb : ρ b = 0) (h0 : w0.heap.size ≤ b) (o : Nat) (vs : List Value) : Gw z w0 (W.setCells b o vs) gb n ρ0 ρ c q f r p i rg rc g m h := by
 obtain ⟨D, P, y⟩ := k
 exact ⟨D, ⟨P.gh.keep (by rw [yio]; exact Nat.le_refl _) (fun k hk => yda _ _ _ _ _ (fun e => hk (by rw [e]; exact hb))), P.fr.setCellsG (.inr h0) _ _, P.new⟩, y⟩
theorem EvL.away {V : World} {v : Value} {l : List Ev} {ρ : Nat → Nat} (he : EvL V v l) (hr : ybs ρ v 5) {b : Nat} (hb : ρ b = 0) (o : Nat) (vs : List Value) : EvL (V.setCells b o vs) v l := yae he (fun k e => yda _ _ _ _ _ (fun e' => by have := hr k e; rw [e', hb] at this; cases this))
theorem Gw.cells (k : Gw z w0 W gb n ρ0 ρ c q f r p i rg rc g m h) : W.cell? ⟨rg, i * 6, none⟩ = some (.bool g.there) ∧ W.cell? ⟨rg, i * 6 + 1, none⟩ = some (.string g.text) ∧ W.cell? ⟨rg, i * 6 + 2, none⟩ = some (.int .i64 g.birth.1) ∧ W.cell? ⟨rg, i * 6 + 3, none⟩ = some (.int .i64 g.birth.2) ∧ W.cell? ⟨rg, i * 6 + 4, none⟩ = some m ∧ W.cell? ⟨rg, i * 6 + 5, none⟩ = some h ∧ rg < W.heap.size ∧ (∀ k, W.frozen? ⟨rg, k, none⟩ = false) ∧ ρ rg = 6 + r := by
 obtain ⟨D, P, hnd, hr, hi, hrv, rfl, rfl⟩ := k
 obtain ⟨rg', rc', e2, l2, r2, c2, f2⟩ := P.gh.past hr (i := i) (p := p) hi
 rw [hrv] at e2
 cases e2
 simp only [ydd] at c2
 exact ⟨c2 0 (by omega), c2 1 (by omega), c2 2 (by omega), c2 3 (by omega), c2 4 (by omega), c2 5 (by omega), l2, f2, r2⟩
theorem Gw.cnt (k : Gw z w0 W gb n ρ0 ρ c q f r p i rg rc g m h) : ∃ cg cc, W.cell? ⟨gb, 0, none⟩ = some (.slice (some ⟨cg, 0, none⟩) n cc) ∧ W.cell? ⟨cg, r, none⟩ = some (.int .i64 (c r)) ∧ gb < W.heap.size ∧ cg < W.heap.size ∧ n ≤ 6 ∧ r < n := by
 obtain ⟨D, P, hnd, hr, _⟩ := k
 obtain ⟨cg, cc, ec, lc, _, hcs, _⟩ := P.gh.count
 exact ⟨cg, cc, by rw [P.gh.c0, ec], hcs r hr, P.gh.glt, lc, P.gh.n6, hr⟩
theorem Gw.rowc (k : Gw z w0 W gb n ρ0 ρ c q f r p i rg rc g m h) : ∃ sg sc, W.cell? ⟨gb, 2, none⟩ = some (.slice (some ⟨sg, 0, none⟩) n sc) ∧ W.cell? ⟨sg, r, none⟩ = some (.slice (some ⟨rg, 0, none⟩) q.length rc) ∧ gb < W.heap.size ∧ sg < W.heap.size ∧ n ≤ 6 ∧ r < n ∧ i < q.length := by
 obtain ⟨D, P, hnd, hr, hi, hrv, _⟩ := k
 obtain ⟨sg, sc, e1, l1, r1, c1, _⟩ := P.gh.rows
 exact ⟨sg, sc, by rw [P.gh.c2, e1], by rw [c1 r hr, hrv], P.gh.glt, l1, P.gh.n6, hr, (List.getElem?_eq_some_iff.1 hi).1⟩
theorem Gw.all (k : Gw z w0 W gb n ρ0 ρ c q f r p i rg rc g m h) {g' : ycf} {m' h' : Value} (ev : EvL W m' g'.made ∧ EvL W h' g'.heard) (ro : ybs ρ m' 5 ∧ ybs ρ h' 5) : Gw z w0 (W.setCells rg (i * 6) (yed g' m' h')) gb n ρ0 ρ c q f r p i rg rc g' m' h' := by
 have r6 := k.cells.2.2.2.2.2.2.2.2
 have kp : ∀ (W1 : World) (j : Nat) (v : Value) (x : Value) (l : List Ev), ybs ρ x 5 → EvL W1 x l → EvL (W1.setCell ⟨rg, i * 6 + j, none⟩ v) x l := fun W1 j v x l hx he => yae he (fun y e => Below.heap_setCell _ _ _ _ (fun e' => by have := hx y e; rw [show y = rg from e', r6] at this; omega))
 have k0 := k.there g'.there
 have k1 := k0.text g'.text
 have k2 := k1.birth g'.birth
 have e4 : EvL (((((W.setCell ⟨rg, i * 6, none⟩ (.bool g'.there)).setCell ⟨rg, i * 6 + 1, none⟩ (.string g'.text)).setCell ⟨rg, i * 6 + 2, none⟩ (.int .i64 g'.birth.1)).setCell ⟨rg, i * 6 + 2 + 1, none⟩ (.int .i64 g'.birth.2))) m' g'.made := kp _ 3 _ _ _ ro.1 (kp _ 2 _ _ _ ro.1 (kp _ 1 _ _ _ ro.1 (kp _ 0 _ _ _ ro.1 ev.1)))
 have e5 : EvL ((((((W.setCell ⟨rg, i * 6, none⟩ (.bool g'.there)).setCell ⟨rg, i * 6 + 1, none⟩ (.string g'.text)).setCell ⟨rg, i * 6 + 2, none⟩ (.int .i64 g'.birth.1)).setCell ⟨rg, i * 6 + 2 + 1, none⟩ (.int .i64 g'.birth.2))).setCell ⟨rg, i * 6 + 4, none⟩ m') h' g'.heard := kp _ 4 _ _ _ ro.2 (kp _ 3 _ _ _ ro.2 (kp _ 2 _ _ _ ro.2 (kp _ 1 _ _ _ ro.2 (kp _ 0 _ _ _ ro.2 ev.2))))
 have k3 := k2.made e4 ro.1
 exact k3.heard e5 ro.2
end
end Go.Proofs.YtaelaldmibgibaaGreat

namespace Go.Proofs.YtaelaldmibgibaaGreat
open Go.RowKit
open Classical
theorem info_row : (Tryz.prog.info? 87).map (fun i => (i.zero, i.size, i.bytes)) = some (some (.slice none 0 0), 1, 24) := by kernel_rfl
section
variable {ops : Array Oper} {rest : List Oper} {o : Oper} {a : Act} {Q : Exit → Act → World → Prop} (w : World)
theorem app_int (hgd : o.guard = none) (s x : Operand) (ho : o.op = .call { callee := .builtin .append, args := #[s, x], argTypes := #[35, 35] }) (base : Nat) (v : Value) (n : Nat) (xs : List Value) (hs : a.eval s = v) (hown : w.ownsRow base 3 1 v n xs)
  (k : Nat) (y : Int) (hx : a.eval x = .slice (some ⟨k, 0, none⟩) 1 1) (hc : w.cell? ⟨k, 0, none⟩ = some (.int .i64 y)) (hn : n ≤ 1000000000000) (hb : base ≤ w.heap.size)
  (h : ∀ g cap w1, w1.ownsRow base 3 1 (.slice (some ⟨g, 0, none⟩) (n + 1) cap) (n + 1) (xs ++ [.int .i64 y]) → w.grownBy w1 v.ownBlock → (v.ownBlock = some g ∨ g = w.heap.size) → g < w1.heap.size → wpList Tryz.prog ops Q rest (a.put o.dst (.slice (some ⟨g, 0, none⟩) (n + 1) cap)) w1) :
  wpList Tryz.prog ops Q (o :: rest) a w := by
 obtain ⟨i0, hi, hz0, hz1, hz2⟩ := info_parts yoe
 refine wpList_append_lies w hgd s x 35 ho base 3 i0 _ 1 8 Tryz.underlying35 hi hz0 hz1 hz2 rfl (by decide) v n xs hs hown ⟨k, 0, none⟩ 1 1 [.int .i64 y] hx rfl ?_ ?_ (by omega) (by unfold maxLen; omega) (by omega) hb _ rfl h
 ·intro j u hj
  match j, hj with
  |0, hj => simp at hj; subst hj; simpa [Addr.add] using hc
 ·intro u hu; simp at hu; subst hu; rfl
theorem app_row (hgd : o.guard = none) (s x : Operand) (ho : o.op = .call { callee := .builtin .append, args := #[s, x], argTypes := #[37, 37] }) (base : Nat) (v : Value) (n : Nat) (xs : List Value) (hs : a.eval s = v) (hown : w.ownsRow base 87 1 v n xs)
  (k : Nat) (hx : a.eval x = .slice (some ⟨k, 0, none⟩) 1 1) (hc : w.cell? ⟨k, 0, none⟩ = some (.slice none 0 0)) (hn : n ≤ 1000000000000) (hb : base ≤ w.heap.size)
  (h : ∀ g cap w1, w1.ownsRow base 87 1 (.slice (some ⟨g, 0, none⟩) (n + 1) cap) (n + 1) (xs ++ [.slice none 0 0]) → w.grownBy w1 v.ownBlock → (v.ownBlock = some g ∨ g = w.heap.size) → g < w1.heap.size → wpList Tryz.prog ops Q rest (a.put o.dst (.slice (some ⟨g, 0, none⟩) (n + 1) cap)) w1) :
  wpList Tryz.prog ops Q (o :: rest) a w := by
 obtain ⟨i0, hi, hz0, hz1, hz2⟩ := info_parts info_row
 refine wpList_append_lies w hgd s x 37 ho base 87 i0 _ 1 24 Tryz.underlying37 hi hz0 hz1 hz2 rfl (by decide) v n xs hs hown ⟨k, 0, none⟩ 1 1 [.slice none 0 0] hx rfl ?_ ?_ (by omega) (by unfold maxLen; omega) (by omega) hb _ rfl h
 ·intro j u hj
  match j, hj with
  |0, hj => simp at hj; subst hj; simpa [Addr.add] using hc
 ·intro u hu; simp at hu; subst hu; rfl
end
def gst0 : Gst := ⟨fun _ => 0, [], fun _ _ => yct⟩
structure Mk (w W : World) (c s : Nat) (cv sv : Value) : Prop where
 bel : Below w.heap.size w W
 blk : W.heap[w.heap.size]? = some (.cells #[cv, .slice none 0 0, sv] 39 (0, 0))
 cr : W.ownsRow (w.heap.size + 1) 3 1 cv c (List.replicate c (.int .i64 0))
 sr : W.ownsRow (w.heap.size + 1) 87 1 sv s (List.replicate s (.slice none 0 0))
 ne : ∀ k, cv.ownBlock = some k → sv.ownBlock = some k → False
theorem Mk.zero (w : World) : Mk w (w.alloc (.cells #[.slice none 0 0, .slice none 0 0, .slice none 0 0] 39)) 0 0 (.slice none 0 0) (.slice none 0 0) :=
 ⟨(Below.refl _ _).alloc (Nat.le_refl _) _, heap_alloc_new _ _, World.ownsRow_nil _ _ _ _, World.ownsRow_nil _ _ _ _, fun _ e => (by cases e)⟩
theorem Mk.lt {w W : World} {c s : Nat} {cv sv : Value} (h : Mk w W c s cv sv) : w.heap.size < W.heap.size := by
 rcases Nat.lt_or_ge w.heap.size W.heap.size with q | q
 ·exact q
 ·have := h.blk
  rw [Array.getElem?_eq_none q] at this
  cases this
theorem Mk.cells {w W : World} {c s : Nat} {cv sv : Value} (h : Mk w W c s cv sv) : W.cell? ⟨w.heap.size, 0, none⟩ = some cv ∧ W.cell? ⟨w.heap.size, 2, none⟩ = some sv ∧ W.frozen? ⟨w.heap.size, 0, none⟩ = false ∧ W.frozen? ⟨w.heap.size, 2, none⟩ = false := by
 simp only [World.cell?, World.frozen?, h.blk]
 exact ⟨rfl, rfl, rfl, rfl⟩
theorem Mk.alloc {w W : World} {c s : Nat} {cv sv : Value} (h : Mk w W c s cv sv) (o : Obj) : Mk w (W.alloc o) c s cv sv :=
 ⟨h.bel.alloc h.bel.size _, by rw [Below.heap_alloc _ _ _ h.lt]; exact h.blk, yae h.cr (fun k e => Below.heap_alloc _ _ _ (World.ownsRow.lt h.cr k e).2), yae h.sr (fun k e => Below.heap_alloc _ _ _ (World.ownsRow.lt h.sr k e).2), h.ne⟩
theorem Mk.count {w W w1 : World} {c s : Nat} {cv sv : Value} (h : Mk w W c s cv sv) {g cap : Nat} (ho : w1.ownsRow (w.heap.size + 1) 3 1 (.slice (some ⟨g, 0, none⟩) (c + 1) cap) (c + 1) (List.replicate c (.int .i64 0) ++ [.int .i64 0])) (hgr : W.grownBy w1 cv.ownBlock) (hat : cv.ownBlock = some g ∨ g = W.heap.size) :
  (w1.cell? ⟨w.heap.size, 0, none⟩ = some cv ∧ w1.frozen? ⟨w.heap.size, 0, none⟩ = false) ∧ Mk w (w1.setCell ⟨w.heap.size, 0, none⟩ (.slice (some ⟨g, 0, none⟩) (c + 1) cap)) (c + 1) s (.slice (some ⟨g, 0, none⟩) (c + 1) cap) sv := by
 have ne : (some w.heap.size : Option Nat) ≠ cv.ownBlock := fun e => by have := (World.ownsRow.lt h.cr _ e.symm).1; omega
 have kb := hgr.block _ h.lt ne
 have hb1 := h.bel.grown hgr h.bel.size (fun k e => by have := (World.ownsRow.lt h.cr _ e).1; omega)
 have hgl := (World.ownsRow.lt ho g rfl).1
 refine ⟨⟨(World.cell?_of_block (a := ⟨w.heap.size, 0, none⟩) kb).trans h.cells.1, (World.frozen?_of_block (a := ⟨w.heap.size, 0, none⟩) kb).trans h.cells.2.2.1⟩, hb1.setCell (p := ⟨w.heap.size, 0, none⟩) (Nat.le_refl _) _, ?_, ?_, ?_, ?_⟩
 ·rw [heap_setCell_same w1 w.heap.size 0 _ _ _ (kb.trans h.blk)]
  rfl
 ·rw [List.replicate_succ']
  refine yae ho (fun k e => Below.heap_setCell _ _ _ _ (fun e' => ?_))
  have ek : k = g := (Option.some.inj e).symm
  have : k = w.heap.size := e'
  omega
 ·refine yae h.sr (fun k e => (Below.heap_setCell _ _ _ _ (fun e' => ?_)).trans (hgr.block k (World.ownsRow.lt h.sr k e).2 (fun e' => h.ne k e'.symm e)))
  have := (World.ownsRow.lt h.sr k e).1
  have : k = w.heap.size := e'
  omega
 ·intro k e e'
  have ek : k = g := (Option.some.inj e).symm
  rcases hat with y | y
  ·exact h.ne k (by rw [y, ek]) e'
  ·have := (World.ownsRow.lt h.sr k e').2; omega
theorem Mk.row {w W w1 : World} {c s : Nat} {cv sv : Value} (h : Mk w W c s cv sv) {g cap : Nat} (ho : w1.ownsRow (w.heap.size + 1) 87 1 (.slice (some ⟨g, 0, none⟩) (s + 1) cap) (s + 1) (List.replicate s (.slice none 0 0) ++ [.slice none 0 0])) (hgr : W.grownBy w1 sv.ownBlock) (hat : sv.ownBlock = some g ∨ g = W.heap.size) :
  (w1.cell? ⟨w.heap.size, 2, none⟩ = some sv ∧ w1.frozen? ⟨w.heap.size, 2, none⟩ = false) ∧ Mk w (w1.setCell ⟨w.heap.size, 2, none⟩ (.slice (some ⟨g, 0, none⟩) (s + 1) cap)) c (s + 1) cv (.slice (some ⟨g, 0, none⟩) (s + 1) cap) := by
 have ne : (some w.heap.size : Option Nat) ≠ sv.ownBlock := fun e => by have := (World.ownsRow.lt h.sr _ e.symm).1; omega
 have kb := hgr.block _ h.lt ne
 have hb1 := h.bel.grown hgr h.bel.size (fun k e => by have := (World.ownsRow.lt h.sr _ e).1; omega)
 have hgl := (World.ownsRow.lt ho g rfl).1
 refine ⟨⟨(World.cell?_of_block (a := ⟨w.heap.size, 2, none⟩) kb).trans h.cells.2.1, (World.frozen?_of_block (a := ⟨w.heap.size, 2, none⟩) kb).trans h.cells.2.2.2⟩, hb1.setCell (p := ⟨w.heap.size, 2, none⟩) (Nat.le_refl _) _, ?_, ?_, ?_, ?_⟩
 ·rw [heap_setCell_same w1 w.heap.size 2 _ _ _ (kb.trans h.blk)]
  rfl
 ·refine yae h.cr (fun k e => (Below.heap_setCell _ _ _ _ (fun e' => ?_)).trans (hgr.block k (World.ownsRow.lt h.cr k e).2 (fun e' => h.ne k e e'.symm)))
  have := (World.ownsRow.lt h.cr k e).1
  have : k = w.heap.size := e'
  omega
 ·rw [List.replicate_succ']
  refine yae ho (fun k e => Below.heap_setCell _ _ _ _ (fun e' => ?_))
  have ek : k = g := (Option.some.inj e).symm
  have : k = w.heap.size := e'
  omega
 ·intro k e e'
  have ek : k = g := (Option.some.inj e').symm
  rcases hat with y | y
  ·exact h.ne k e (by rw [y, ek])
  ·have := (World.ownsRow.lt h.cr k e).2; omega
theorem Mk.done {w W : World} {n : Nat} {cv sv : Value} (h : Mk w W n n cv sv) (h1 : 1 ≤ n) (h6 : n ≤ 6) : ∃ ρ D, Gh w.heap.size W w.heap.size n ρ gst0 D (fun _ => []) ∧ ∀ k, ρ k ≠ 0 → w.heap.size ≤ k := by
 obtain ⟨cg, cc, ec, lc, lc'⟩ := World.ownsRow.form h.cr (by omega)
 obtain ⟨sg, sc, es, ls, ls'⟩ := World.ownsRow.form h.sr (by omega)
 have ne : cg ≠ sg := fun e => h.ne cg (by rw [ec]; rfl) (by rw [es, e]; rfl)
 refine ⟨fun k => if k = w.heap.size then 1 else if k = cg then 2 else if k = sg then 4 else 0, ⟨cv, .slice none 0 0, sv, fun _ => .slice none 0 0, fun _ _ => .slice none 0 0, fun _ _ => .slice none 0 0⟩, ⟨h1, h6, h.blk, ?_, World.ownsRow_nil _ _ _ _, ?_, fun r _ => World.ownsRow_nil _ _ _ _, fun r _ p hp => absurd hp (List.not_mem_nil), if_pos rfl, ?_, (fun _ e => (by cases e)), ?_, fun r _ p hp => absurd hp (List.not_mem_nil), (fun _ _ _ e => (by cases e)), ?_, ?_⟩, ?_⟩
 ·have e : ivs ((List.range n).map gst0.c) = List.replicate n (.int .i64 0) := by
   apply List.ext_getElem?
   intro j
   simp only [ivs, List.getElem?_map, List.getElem?_replicate]
   by_cases hj : j < n
   ·rw [List.getElem?_range hj, if_pos hj]; rfl
   ·rw [List.getElem?_eq_none (by simpa using hj), if_neg hj]; rfl
  rw [e]
  exact yaq h.cr (fun _ _ => Nat.zero_le _)
 ·have e : (List.range n).map (fun _ => Value.slice none 0 0) = List.replicate n (.slice none 0 0) := by
   apply List.ext_getElem?
   intro j
   simp only [List.getElem?_map, List.getElem?_replicate]
   by_cases hj : j < n
   ·rw [List.getElem?_range hj, if_pos hj]; rfl
   ·rw [List.getElem?_eq_none (by simpa using hj), if_neg hj]; rfl
  show World.ownsRow W 0 _ 1 sv n ((List.range n).map (fun _ => Value.slice none 0 0))
  rw [e]
  exact yaq h.sr (fun _ _ => Nat.zero_le _)
 ·intro k e
  rw [show (⟨cv, .slice none 0 0, sv, fun _ => .slice none 0 0, fun _ _ => .slice none 0 0, fun _ _ => .slice none 0 0⟩ : GD).cv = cv from rfl, ec] at e
  have ek : k = cg := (Option.some.inj e).symm
  show (if k = w.heap.size then 1 else if k = cg then 2 else if k = sg then 4 else 0) = 2
  rw [if_neg (by omega), if_pos ek]
 ·intro k e
  rw [show (⟨cv, .slice none 0 0, sv, fun _ => .slice none 0 0, fun _ _ => .slice none 0 0, fun _ _ => .slice none 0 0⟩ : GD).sv = sv from rfl, es] at e
  have ek : k = sg := (Option.some.inj e).symm
  show (if k = w.heap.size then 1 else if k = cg then 2 else if k = sg then 4 else 0) = 4
  rw [if_neg (by omega), if_neg (by omega), if_pos ek]
 ·intro k hk
  have := h.lt
  change (if k = w.heap.size then 1 else if k = cg then 2 else if k = sg then 4 else 0) ≠ 0 at hk
  split at hk
  ·omega
  ·split at hk
   ·omega
   ·split at hk
    ·omega
    ·exact absurd rfl hk
 ·intro k hk
  change (if k = w.heap.size then 1 else if k = cg then 2 else if k = sg then 4 else 0) ≠ 0 at hk
  split at hk
  ·omega
  ·split at hk
   ·omega
   ·split at hk
    ·omega
    ·exact absurd rfl hk
 ·intro k hk
  change (if k = w.heap.size then 1 else if k = cg then 2 else if k = sg then 4 else 0) ≠ 0 at hk
  split at hk
  ·omega
  ·split at hk
   ·omega
   ·split at hk
    ·omega
    ·exact absurd rfl hk
theorem gNew_any (n : Nat) (w : World) (h1 : 1 ≤ n) (h6 : n ≤ 6) :
  Calls Tryz.prog 9 #[.int .i64 n] w fun e w' => e = .returned (.pointer (some ⟨w.heap.size, 0, none⟩)) ∧ (∃ ρ D, Gh w.heap.size w' w.heap.size n ρ gst0 D (fun _ => []) ∧ ∀ k, ρ k ≠ 0 → w.heap.size ≤ k) ∧ Below w.heap.size w w' := by
 have M0 := yab (Mk.zero w)
 go_enter Tryz.func9, Tryz.ntmps9
 go_wp2
 go_loopw [4] (fun iv wr => ∃ i : Nat, i ≤ n ∧ iv = .int .i64 i ∧ ∃ cv sv, Hid (Mk w wr i i cv sv)) (fun iv _ => n - (intOf iv).toNat)
 case atStart => exact ⟨0, Nat.zero_le _, rfl, _, _, M0⟩
 case round =>
  obtain ⟨i, hi, rfl, cv, sv, hM⟩ := hrel
  by_cases hil : i < n
  ·have d1 : decide ((i : Int) < (n : Int)) = true := by simp; omega
   obtain ⟨ac, cc, rfl⟩ := yam hM.out.cr
   obtain ⟨az, cz, rfl⟩ := yam hM.out.sr
   obtain ⟨k0, k2, f0, f2⟩ := hM.out.cells
   have lg := hM.out.lt
   have bz := hM.out.bel.size
   go_wp2_with (first
    |(at_builtin; refine app_int _ rfl (.tmp 16) (.tmp 17) rfl (w.heap.size + 1) _ i (List.replicate i (.int .i64 0)) rfl (hM.out.alloc _).cr wr.heap.size 0 rfl (by simp) (by omega) (by simp; omega) ?_; intro g2 c2 w9 ho9 hgr9 hat9 hl9; obtain ⟨⟨e1, e2⟩, hM1⟩ := (hM.out.alloc _).count ho9 hgr9 hat9; have M1 := yab hM1; clear ho9 hgr9 hat9 hl9 hM1; obtain ⟨_, m2, _, n2⟩ := M1.out.cells; have lg1 := M1.out.lt; have bz1 := M1.out.bel.size)
    |(at_builtin; refine app_row _ rfl (.tmp 25) (.tmp 26) rfl (w.heap.size + 1) _ i (List.replicate i (.slice none 0 0)) rfl (M1.out.alloc _).sr w9.heap.size rfl (by rw [show w9.heap.size = (w9.setCell ⟨w.heap.size, 0, none⟩ (.slice (some ⟨g2, 0, none⟩) (i + 1) c2)).heap.size from (ybz _ _ _).symm]; simp only [World.cell?, heap_alloc_new]; rfl) (by omega) (by rw [ybz] at bz1; simp; omega) ?_; intro g3 c3 w8 ho8 hgr8 hat8 hl8; obtain ⟨⟨e3, e4⟩, hM2⟩ := (M1.out.alloc _).row ho8 hgr8 hat8; have M2 := yab hM2; clear ho8 hgr8 hat8 hl8 hM2))
   go_roundw
   case rel => exact ⟨i + 1, by omega, by go_num, _, _, M2⟩
   case measure => simp [intOf]; omega
  ·have ei : i = n := by omega
   subst ei
   have d1 : decide ((i : Int) < (i : Int)) = false := by simp
   go_wp2
   go_ret
   exact ⟨rfl, hM.out.done h1 h6, hM.out.bel⟩
end Go.Proofs.YtaelaldmibgibaaGreat

namespace Go.Proofs.YtaelaldmibgibaaGreat
open Go.RowKit
attribute [local go_sem ↓] eqGev
attribute [local go_sem] ykk
section
variable {w : World} {t f : ycf} {mt ht mf hf : Value}
theorem gDoes_b1 (e1 : EvL w mt t.made) (e2 : EvL w ht t.heard) (e3 : EvL w mf f.made) (e4 : EvL w hf f.heard) (h1 : t.there = true) (h2 : f.there = true) (hq : (yeq f.made t.made && yeq t.made f.made) = false) :
  Calls Tryz.prog 35 #[pV t mt ht, pV f mf hf] w fun e w' => e = .returned (.int .i64 (yap t f)) ∧ Below w.heap.size w w' := by
 have C1 : Hid (∀ V, Below w.heap.size w V → Calls Tryz.prog 58 #[mf, ht] V fun e w' => e = .returned (.bool (yeq f.made t.heard)) ∧ Below V.heap.size V w') := fun V hb => ydn _ _ _ _ _ (e3.below hb) (e2.below hb)
 have C2 : Hid (∀ V, Below w.heap.size w V → Calls Tryz.prog 58 #[mt, hf] V fun e w' => e = .returned (.bool (yeq t.made f.heard)) ∧ Below V.heap.size V w') := fun V hb => ydn _ _ _ _ _ (e1.below hb) (e4.below hb)
 have C3 : Hid (∀ V, Below w.heap.size w V → Calls Tryz.prog 58 #[mf, mt] V fun e w' => e = .returned (.bool (yeq f.made t.made)) ∧ Below V.heap.size V w') := fun V hb => ydn _ _ _ _ _ (e3.below hb) (e1.below hb)
 have C4 : Hid (∀ V, Below w.heap.size w V → Calls Tryz.prog 58 #[mt, mf] V fun e w' => e = .returned (.bool (yeq t.made f.made)) ∧ Below V.heap.size V w') := fun V hb => ydn _ _ _ _ _ (e1.below hb) (e3.below hb)
 have S0 := yab (P2.made w t f mt ht mf hf)
 unfold pV
 have heq : (((t.birth.1 : Int) == (f.birth.1 : Int)) && (t.birth.2 == f.birth.2)) = (t.birth.1 == f.birth.1 && t.birth.2 == f.birth.2) := by
  congr 1
  rw [Bool.eq_iff_iff, beq_iff_eq, beq_iff_eq]
  omega
 unfold yap
 obtain ⟨k0, k1, k2, k3, k4, k5⟩ := S0.out.a.cells
 obtain ⟨j0, j1, j2, j3, j4, j5⟩ := S0.out.b.cells
 clear k1 j1
 rw [h1, h2] at S0 k0 k2 k3 k4 k5 j0 j2 j3 j4 j5 ⊢
 clear e1 e2 e3 e4
 rw [← heq]
 generalize hb1 : yeq f.made t.heard = b1 at *
 generalize hb2 : yeq t.made f.heard = b2 at *
 generalize hb3 : yeq f.made t.made = b3 at *
 generalize hb4 : yeq t.made f.made = b4 at *
 generalize hb5 : (((t.birth.1 : Int) == (f.birth.1 : Int)) && (t.birth.2 == f.birth.2)) = b5 at *
 clear hb1 hb2 heq
 clear hb3 hb4
 cases b3 <;> cases b4 <;> cases b1 <;> cases b2 <;> first | (exact absurd hq (by decide)) | skip
 all_goals
  clear hq
  go_enter Tryz.func35, Tryz.ntmps35
  go_wp2_with (first
   |(go_at_call 58; refine (C1.out _ S0.out.bel).mono ?_; clear C1; rintro e w1 ⟨rfl, hbq⟩; clear k0 k2 k3 k4 k5 j0 j2 j3 j4 j5; have S0 := yab (S0.out.more hbq); obtain ⟨k0, k1, k2, k3, k4, k5⟩ := S0.out.a.cells; obtain ⟨j0, j1, j2, j3, j4, j5⟩ := S0.out.b.cells; rw [h1] at k0; rw [h2] at j0; clear hbq k1 j1)
   |(go_at_call 58; refine (C2.out _ S0.out.bel).mono ?_; clear C2; rintro e w1 ⟨rfl, hbq⟩; clear k0 k2 k3 k4 k5 j0 j2 j3 j4 j5; have S0 := yab (S0.out.more hbq); obtain ⟨k0, k1, k2, k3, k4, k5⟩ := S0.out.a.cells; obtain ⟨j0, j1, j2, j3, j4, j5⟩ := S0.out.b.cells; rw [h1] at k0; rw [h2] at j0; clear hbq k1 j1)
   |(go_at_call 58; refine (C3.out _ S0.out.bel).mono ?_; clear C3; rintro e w1 ⟨rfl, hbq⟩; clear k0 k2 k3 k4 k5 j0 j2 j3 j4 j5; have S0 := yab (S0.out.more hbq); obtain ⟨k0, k1, k2, k3, k4, k5⟩ := S0.out.a.cells; obtain ⟨j0, j1, j2, j3, j4, j5⟩ := S0.out.b.cells; rw [h1] at k0; rw [h2] at j0; clear hbq k1 j1)
   |(go_at_call 58; refine (C4.out _ S0.out.bel).mono ?_; clear C4; rintro e w1 ⟨rfl, hbq⟩; clear k0 k2 k3 k4 k5 j0 j2 j3 j4 j5; have S0 := yab (S0.out.more hbq); obtain ⟨k0, k1, k2, k3, k4, k5⟩ := S0.out.a.cells; obtain ⟨j0, j1, j2, j3, j4, j5⟩ := S0.out.b.cells; rw [h1] at k0; rw [h2] at j0; clear hbq k1 j1))
  go_ret
  exact ⟨rfl, S0.out.bel⟩
end
end Go.Proofs.YtaelaldmibgibaaGreat

namespace Go.Proofs.YtaelaldmibgibaaGreat
open Go.RowKit
attribute [local go_sem ↓] eqGev
attribute [local go_sem] ykk
section
variable {w : World} {t f : ycf} {mt ht mf hf : Value}
theorem gDoes_b2 (e1 : EvL w mt t.made) (e2 : EvL w ht t.heard) (e3 : EvL w mf f.made) (e4 : EvL w hf f.heard) (h1 : t.there = true) (h2 : f.there = true) (hq : (yeq f.made t.made && yeq t.made f.made) = true) :
  Calls Tryz.prog 35 #[pV t mt ht, pV f mf hf] w fun e w' => e = .returned (.int .i64 (yap t f)) ∧ Below w.heap.size w w' := by
 have C1 : Hid (∀ V, Below w.heap.size w V → Calls Tryz.prog 58 #[mf, ht] V fun e w' => e = .returned (.bool (yeq f.made t.heard)) ∧ Below V.heap.size V w') := fun V hb => ydn _ _ _ _ _ (e3.below hb) (e2.below hb)
 have C2 : Hid (∀ V, Below w.heap.size w V → Calls Tryz.prog 58 #[mt, hf] V fun e w' => e = .returned (.bool (yeq t.made f.heard)) ∧ Below V.heap.size V w') := fun V hb => ydn _ _ _ _ _ (e1.below hb) (e4.below hb)
 have C3 : Hid (∀ V, Below w.heap.size w V → Calls Tryz.prog 58 #[mf, mt] V fun e w' => e = .returned (.bool (yeq f.made t.made)) ∧ Below V.heap.size V w') := fun V hb => ydn _ _ _ _ _ (e3.below hb) (e1.below hb)
 have C4 : Hid (∀ V, Below w.heap.size w V → Calls Tryz.prog 58 #[mt, mf] V fun e w' => e = .returned (.bool (yeq t.made f.made)) ∧ Below V.heap.size V w') := fun V hb => ydn _ _ _ _ _ (e1.below hb) (e3.below hb)
 have S0 := yab (P2.made w t f mt ht mf hf)
 unfold pV
 have heq : (((t.birth.1 : Int) == (f.birth.1 : Int)) && (t.birth.2 == f.birth.2)) = (t.birth.1 == f.birth.1 && t.birth.2 == f.birth.2) := by
  congr 1
  rw [Bool.eq_iff_iff, beq_iff_eq, beq_iff_eq]
  omega
 unfold yap
 obtain ⟨k0, k1, k2, k3, k4, k5⟩ := S0.out.a.cells
 obtain ⟨j0, j1, j2, j3, j4, j5⟩ := S0.out.b.cells
 clear k1 j1
 rw [h1, h2] at S0 k0 k2 k3 k4 k5 j0 j2 j3 j4 j5 ⊢
 clear e1 e2 e3 e4
 rw [← heq]
 generalize hb1 : yeq f.made t.heard = b1 at *
 generalize hb2 : yeq t.made f.heard = b2 at *
 generalize hb3 : yeq f.made t.made = b3 at *
 generalize hb4 : yeq t.made f.made = b4 at *
 generalize hb5 : (((t.birth.1 : Int) == (f.birth.1 : Int)) && (t.birth.2 == f.birth.2)) = b5 at *
 clear hb1 hb2 heq
 clear hb3 hb4
 cases b3 <;> cases b4 <;> cases b5 <;> cases b1 <;> cases b2 <;> first | (exact absurd hq (by decide)) | skip
 all_goals
  clear hq
  go_enter Tryz.func35, Tryz.ntmps35
  go_wp2_with (first
   |(go_at_call 58; refine (C1.out _ S0.out.bel).mono ?_; clear C1; rintro e w1 ⟨rfl, hbq⟩; clear k0 k2 k3 k4 k5 j0 j2 j3 j4 j5; have S0 := yab (S0.out.more hbq); obtain ⟨k0, k1, k2, k3, k4, k5⟩ := S0.out.a.cells; obtain ⟨j0, j1, j2, j3, j4, j5⟩ := S0.out.b.cells; rw [h1] at k0; rw [h2] at j0; clear hbq k1 j1)
   |(go_at_call 58; refine (C2.out _ S0.out.bel).mono ?_; clear C2; rintro e w1 ⟨rfl, hbq⟩; clear k0 k2 k3 k4 k5 j0 j2 j3 j4 j5; have S0 := yab (S0.out.more hbq); obtain ⟨k0, k1, k2, k3, k4, k5⟩ := S0.out.a.cells; obtain ⟨j0, j1, j2, j3, j4, j5⟩ := S0.out.b.cells; rw [h1] at k0; rw [h2] at j0; clear hbq k1 j1)
   |(go_at_call 58; refine (C3.out _ S0.out.bel).mono ?_; clear C3; rintro e w1 ⟨rfl, hbq⟩; clear k0 k2 k3 k4 k5 j0 j2 j3 j4 j5; have S0 := yab (S0.out.more hbq); obtain ⟨k0, k1, k2, k3, k4, k5⟩ := S0.out.a.cells; obtain ⟨j0, j1, j2, j3, j4, j5⟩ := S0.out.b.cells; rw [h1] at k0; rw [h2] at j0; clear hbq k1 j1)
   |(go_at_call 58; refine (C4.out _ S0.out.bel).mono ?_; clear C4; rintro e w1 ⟨rfl, hbq⟩; clear k0 k2 k3 k4 k5 j0 j2 j3 j4 j5; have S0 := yab (S0.out.more hbq); obtain ⟨k0, k1, k2, k3, k4, k5⟩ := S0.out.a.cells; obtain ⟨j0, j1, j2, j3, j4, j5⟩ := S0.out.b.cells; rw [h1] at k0; rw [h2] at j0; clear hbq k1 j1))
  go_ret
  exact ⟨rfl, S0.out.bel⟩
end
end Go.Proofs.YtaelaldmibgibaaGreat

namespace Go.Proofs.YtaelaldmibgibaaGreat
open Go.RowKit
attribute [local go_sem ↓] eqGev
attribute [local go_sem] ykk
section
variable {w : World} {t f : ycf} {mt ht mf hf : Value}
theorem gDoes_none (h1 : t.there = false) (h2 : f.there = false) :
  Calls Tryz.prog 35 #[pV t mt ht, pV f mf hf] w fun e w' => e = .returned (.int .i64 (yap t f)) ∧ Below w.heap.size w w' := by
 have S0 := yab (P2.made w t f mt ht mf hf)
 obtain ⟨k0, k1, k2, k3, k4, k5⟩ := S0.out.a.cells
 obtain ⟨j0, j1, j2, j3, j4, j5⟩ := S0.out.b.cells
 unfold pV yap
 rw [h1, h2] at S0 k0 j0 ⊢
 clear k1 k2 k3 k4 k5 j1 j2 j3 j4 j5
 go_enter Tryz.func35, Tryz.ntmps35
 go_wp2
 go_ret
 exact ⟨rfl, S0.out.bel⟩
theorem gDoes_from (e2 : EvL w ht t.heard) (e3 : EvL w mf f.made) (h1 : t.there = false) (h2 : f.there = true) :
  Calls Tryz.prog 35 #[pV t mt ht, pV f mf hf] w fun e w' => e = .returned (.int .i64 (yap t f)) ∧ Below w.heap.size w w' := by
 have C1 : Hid (∀ V, Below w.heap.size w V → Calls Tryz.prog 58 #[mf, ht] V fun e w' => e = .returned (.bool (yeq f.made t.heard)) ∧ Below V.heap.size V w') := fun V hb => ydn _ _ _ _ _ (e3.below hb) (e2.below hb)
 have C2 : Hid (∀ V, Below w.heap.size w V → Calls Tryz.prog 57 #[ht, .agg #[.int .i64 f.birth.1, .int .i64 f.birth.2]] V fun e w' => e = .returned (.bool (yla t.heard f.birth)) ∧ Below V.heap.size V w') := fun V hb => ykc _ _ f.birth _ (e2.below hb)
 have S0 := yab (P2.made w t f mt ht mf hf)
 obtain ⟨k0, k1, k2, k3, k4, k5⟩ := S0.out.a.cells
 obtain ⟨j0, j1, j2, j3, j4, j5⟩ := S0.out.b.cells
 unfold pV yap
 clear e2 e3 k1 j1
 rw [h1, h2] at S0 k0 k2 k3 k4 k5 j0 j2 j3 j4 j5 ⊢
 generalize yeq f.made t.heard = b1 at *
 generalize yla t.heard f.birth = b2 at *
 cases b1
 ·cases b2
  all_goals
   go_enter Tryz.func35, Tryz.ntmps35
   go_wp2_with (first
    |(go_at_call 58; refine (C1.out _ S0.out.bel).mono ?_; rintro e w1 ⟨rfl, hbq⟩; clear k0 k2 k3 k4 k5 j0 j2 j3 j4 j5; have S0 := yab (S0.out.more hbq); obtain ⟨k0, k1, k2, k3, k4, k5⟩ := S0.out.a.cells; obtain ⟨j0, j1, j2, j3, j4, j5⟩ := S0.out.b.cells; rw [h1] at k0; rw [h2] at j0; clear hbq k1 j1)
    |(go_at_call 57; refine (C2.out _ S0.out.bel).mono ?_; rintro e w1 ⟨rfl, hbq⟩; clear k0 k2 k3 k4 k5 j0 j2 j3 j4 j5; have S0 := yab (S0.out.more hbq); obtain ⟨k0, k1, k2, k3, k4, k5⟩ := S0.out.a.cells; obtain ⟨j0, j1, j2, j3, j4, j5⟩ := S0.out.b.cells; rw [h1] at k0; rw [h2] at j0; clear hbq k1 j1))
   go_ret
   exact ⟨rfl, S0.out.bel⟩
 ·go_enter Tryz.func35, Tryz.ntmps35
  go_wp2_with (first
   |(go_at_call 58; refine (C1.out _ S0.out.bel).mono ?_; rintro e w1 ⟨rfl, hbq⟩; clear k0 k2 k3 k4 k5 j0 j2 j3 j4 j5; have S0 := yab (S0.out.more hbq); obtain ⟨k0, k1, k2, k3, k4, k5⟩ := S0.out.a.cells; obtain ⟨j0, j1, j2, j3, j4, j5⟩ := S0.out.b.cells; rw [h1] at k0; rw [h2] at j0; clear hbq k1 j1))
  go_ret
  exact ⟨rfl, S0.out.bel⟩
theorem gDoes_to (e1 : EvL w mt t.made) (e4 : EvL w hf f.heard) (h1 : t.there = true) (h2 : f.there = false) :
  Calls Tryz.prog 35 #[pV t mt ht, pV f mf hf] w fun e w' => e = .returned (.int .i64 (yap t f)) ∧ Below w.heap.size w w' := by
 have C1 : Hid (∀ V, Below w.heap.size w V → Calls Tryz.prog 58 #[mt, hf] V fun e w' => e = .returned (.bool (yeq t.made f.heard)) ∧ Below V.heap.size V w') := fun V hb => ydn _ _ _ _ _ (e1.below hb) (e4.below hb)
 have C2 : Hid (∀ V, Below w.heap.size w V → Calls Tryz.prog 57 #[hf, .agg #[.int .i64 t.birth.1, .int .i64 t.birth.2]] V fun e w' => e = .returned (.bool (yla f.heard t.birth)) ∧ Below V.heap.size V w') := fun V hb => ykc _ _ t.birth _ (e4.below hb)
 have S0 := yab (P2.made w t f mt ht mf hf)
 obtain ⟨k0, k1, k2, k3, k4, k5⟩ := S0.out.a.cells
 obtain ⟨j0, j1, j2, j3, j4, j5⟩ := S0.out.b.cells
 unfold pV yap
 clear e1 e4 k1 j1
 rw [h1, h2] at S0 k0 k2 k3 k4 k5 j0 j2 j3 j4 j5 ⊢
 generalize yeq t.made f.heard = b1 at *
 generalize yla f.heard t.birth = b2 at *
 cases b2
 ·go_enter Tryz.func35, Tryz.ntmps35
  go_wp2_with (first
   |(go_at_call 57; refine (C2.out _ S0.out.bel).mono ?_; rintro e w1 ⟨rfl, hbq⟩; clear k0 k2 k3 k4 k5 j0 j2 j3 j4 j5; have S0 := yab (S0.out.more hbq); obtain ⟨k0, k1, k2, k3, k4, k5⟩ := S0.out.a.cells; obtain ⟨j0, j1, j2, j3, j4, j5⟩ := S0.out.b.cells; rw [h1] at k0; rw [h2] at j0; clear hbq k1 j1))
  go_ret
  exact ⟨rfl, S0.out.bel⟩
 ·cases b1
  all_goals
   go_enter Tryz.func35, Tryz.ntmps35
   go_wp2_with (first
    |(go_at_call 58; refine (C1.out _ S0.out.bel).mono ?_; rintro e w1 ⟨rfl, hbq⟩; clear k0 k2 k3 k4 k5 j0 j2 j3 j4 j5; have S0 := yab (S0.out.more hbq); obtain ⟨k0, k1, k2, k3, k4, k5⟩ := S0.out.a.cells; obtain ⟨j0, j1, j2, j3, j4, j5⟩ := S0.out.b.cells; rw [h1] at k0; rw [h2] at j0; clear hbq k1 j1)
    |(go_at_call 57; refine (C2.out _ S0.out.bel).mono ?_; rintro e w1 ⟨rfl, hbq⟩; clear k0 k2 k3 k4 k5 j0 j2 j3 j4 j5; have S0 := yab (S0.out.more hbq); obtain ⟨k0, k1, k2, k3, k4, k5⟩ := S0.out.a.cells; obtain ⟨j0, j1, j2, j3, j4, j5⟩ := S0.out.b.cells; rw [h1] at k0; rw [h2] at j0; clear hbq k1 j1))
   go_ret
   exact ⟨rfl, S0.out.bel⟩
theorem ycn (e1 : EvL w mt t.made) (e2 : EvL w ht t.heard) (e3 : EvL w mf f.made) (e4 : EvL w hf f.heard) :
  Calls Tryz.prog 35 #[pV t mt ht, pV f mf hf] w fun e w' => e = .returned (.int .i64 (yap t f)) ∧ Below w.heap.size w w' := by
 cases h1 : t.there
 ·cases h2 : f.there
  ·exact gDoes_none h1 h2
  ·exact gDoes_from e2 e3 h1 h2
 ·cases h2 : f.there
  ·exact gDoes_to e1 e4 h1 h2
  ·cases hq : (yeq f.made t.made && yeq t.made f.made)
   ·exact gDoes_b1 e1 e2 e3 e4 h1 h2 hq
   ·exact gDoes_b2 e1 e2 e3 e4 h1 h2 hq
end
end Go.Proofs.YtaelaldmibgibaaGreat
