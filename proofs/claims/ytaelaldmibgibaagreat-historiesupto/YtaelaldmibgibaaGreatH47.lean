/- One path that one replica alone writes: what each replica has of it is what its owner had at the time that it knows of (pure). One path that one replica alone writes, in a net: what each step leaves of it (pure). One path that one replica alone writes, in a net: its owner's writing and removing; a pull of all (pure). Histories (pure): sets of events against times: what a pull does by the one is what it does by the other. Histories (pure): a net and its pasts say the same, and go on so behind an event. Histories (pure): a write, a removal, a conflict resolved. -/
import Derived.Test.YtaelaldmibgibaaGreatH46
import Derived.Test.YtaelaldmibgibaaGreatH11

set_option linter.unusedVariables false
set_option linter.unusedSimpArgs false
set_option linter.unusedSectionVars false

namespace Go.Proofs.YtaelaldmibgibaaGreat
open Go.RowKit Go.Sim
open Classical
theorem yno (i : Nat) (x : RS) (p : ByteArray) : (vw i x p).kn i = x.cm i := by
 unfold vw
 cases ybb p x.E with
 |none => rfl
 |some R => show upT R.kn i (x.cm i) i = _; unfold upT; rw [if_pos rfl]
theorem CS_set_ne {S : List RS} {r o : Nat} (h : r ≠ o) (x : RS) : CS (S.set r x) o = CS S o := by unfold CS; rw [ykz h]
open Go.RowKit
open Go.Sim
structure RG (H : Ev → Prop) (v : Rec) (g : ycf) : Prop where
 there : g.there = decide (0 < v.bn)
 text : g.text = if 0 < v.bn then v.text else ⟨#[]⟩
 birth : 0 < v.bn → v.br = (g.birth.1 : Int) ∧ v.bn = g.birth.2 ∧ H g.birth
 made : ∀ e ∈ g.made, H e ∧ e.2 ≤ v.ch e.1
 top : ∀ k < 6, v.ch k = 0 ∨ (k, v.ch k) ∈ g.made
 mt : ¬ 0 < v.bn → g.made = []
 heard : ∀ e, e ∈ g.heard ↔ H e ∧ e.2 ≤ v.kn e.1
 lo : ∀ k < 6, 0 ≤ v.kn k
 nd : g.made.Nodup ∧ g.heard.Nodup
def HE (H : Ev → Prop) : Prop := ∀ e, H e → e.1 < 6 ∧ 0 < e.2
theorem leB_iff {a b : Nat → Int} (h : ∀ k < 6, 0 ≤ b k) : leB a b = true ↔ ∀ k < 6, a k ≤ b k := by
 constructor
 ·intro q k hk
  unfold leB at q
  have := ynw q k hk
  have := yea a b k
  omega
 ·intro q
  have e : ∀ k < 6, yad a b k = b k := fun k hk => by
   have h1 := q k hk
   have h2 := h k hk
   unfold yad g1 zer
   (repeat' split) <;> omega
  unfold leB eqT
  simp [e 0 (by omega), e 1 (by omega), e 2 (by omega), e 3 (by omega), e 4 (by omega), e 5 (by omega)]
theorem RG.ch0 {H : Ev → Prop} (hH : HE H) {v : Rec} {g : ycf} (h : RG H v g) (k : Nat) (hk : k < 6) : 0 ≤ v.ch k := by
 rcases h.top k hk with q | q
 ·omega
 ·have := (hH _ (h.made _ q).1).2
  omega
theorem RG.chz {H : Ev → Prop} {v : Rec} {g : ycf} (h : RG H v g) (hb : ¬ 0 < v.bn) (k : Nat) (hk : k < 6) : v.ch k = 0 := by
 rcases h.top k hk with q | q
 ·exact q
 ·rw [h.mt hb] at q; cases q
theorem le_all {H : Ev → Prop} (hH : HE H) {v u : Rec} {g g' : ycf} (h : RG H v g) (h' : RG H u g') : yeq g.made g'.heard = leB v.ch u.kn := by
 rw [Bool.eq_iff_iff, yns, leB_iff h'.lo]
 constructor
 ·intro q k hk
  rcases h.top k hk with z | z
  ·rw [z]; exact h'.lo k hk
  ·exact ((h'.heard _).1 (q _ z)).2
 ·intro q e he
  obtain ⟨h1, h2⟩ := h.made e he
  exact (h'.heard e).2 ⟨h1, Int.le_trans h2 (q _ (hH e h1).1)⟩
theorem ypx {H : Ev → Prop} {v u : Rec} {g g' : ycf} (h : RG H v g) (h' : RG H u g') (hb : 0 < v.bn) : yla g'.heard g.birth = hasB v u.kn := by
 obtain ⟨b1, b2, b3⟩ := h.birth hb
 rw [Bool.eq_iff_iff, yeu, h'.heard]
 unfold hasB
 rw [decide_eq_true_eq, b1, b2, Int.toNat_natCast]
 exact ⟨fun q => q.2, fun q => ⟨b3, q⟩⟩
def Ver2 (t f : Rec) (gt gf : ycf) : Prop := t.br = f.br → t.bn = f.bn → (∀ k < 6, t.ch k = f.ch k) → ∀ e, e ∈ gt.made ↔ e ∈ gf.made
theorem is_ver {H : Ev → Prop} (hH : HE H) {t f : Rec} {gt gf : ycf} (h : RG H t gt) (h' : RG H f gf) (ht : 0 < t.bn) (hf : 0 < f.bn) (hV : Ver2 t f gt gf) : ((yeq gf.made gt.made && yeq gt.made gf.made) && (gt.birth.1 == gf.birth.1 && gt.birth.2 == gf.birth.2)) = ysg t f := by
 obtain ⟨b1, b2, _⟩ := h.birth ht
 obtain ⟨c1, c2, _⟩ := h'.birth hf
 have eq : eqT t.ch f.ch = true ↔ ∀ k < 6, t.ch k = f.ch k := by
  refine ⟨ynw, fun e => ?_⟩
  unfold eqT
  simp [e 0 (by omega), e 1 (by omega), e 2 (by omega), e 3 (by omega), e 4 (by omega), e 5 (by omega)]
 unfold ysg
 rw [Bool.eq_iff_iff]
 simp only [Bool.and_eq_true, beq_iff_eq, yns, eq]
 constructor
 ·rintro ⟨⟨m1, m2⟩, e1, e2⟩
  refine ⟨⟨by rw [b1, c1, e1], by rw [b2, c2, e2]⟩, fun k hk => ?_⟩
  have l1 : t.ch k ≤ f.ch k := by
   rcases h.top k hk with q | q
   ·rw [q]; exact h'.ch0 hH k hk
   ·exact (h'.made _ (m2 _ q)).2
  have l2 : f.ch k ≤ t.ch k := by
   rcases h'.top k hk with q | q
   ·rw [q]; exact h.ch0 hH k hk
   ·exact (h.made _ (m1 _ q)).2
  omega
 ·rintro ⟨⟨e1, e2⟩, e3⟩
  have m := hV e1 e2 e3
  refine ⟨⟨fun e he => (m e).2 he, fun e he => (m e).1 he⟩, ?_, by rw [← b2, ← c2]; exact e2⟩
  rw [b1, c1] at e1
  exact Int.ofNat.inj e1
theorem does_eq {H : Ev → Prop} (hH : HE H) {t f : Rec} {gt gf : ycf} (h : RG H t gt) (h' : RG H f gf) (hV : 0 < t.bn → 0 < f.bn → Ver2 t f gt gf) : yap gt gf = (if yhd f t = true then 0 else ydm t f) ∧ (((gt.there && !gf.there) && yap gt gf == 0) = yhd f t) := by
 have l1 := le_all hH h' h
 have l2 := le_all hH h h'
 unfold yap ydm yhd
 rw [h.there, h'.there]
 by_cases ht : 0 < t.bn
 ·by_cases hf : 0 < f.bn
  ·have iv := is_ver hH h h' ht hf (hV ht hf)
   simp only [ht, hf, decide_true, Bool.and_self, if_true, Bool.not_true, Bool.and_false, Bool.false_and, Bool.false_eq_true, if_false, iv, l1, l2]
   unfold inB
   refine ⟨?_, trivial⟩
   cases ysg t f <;> cases leB f.ch t.kn <;> cases leB t.ch f.kn <;> rfl
  ·have hb := ypx h h' ht
   simp only [ht, hf, decide_true, decide_false, Bool.and_self, Bool.and_false, Bool.false_and, Bool.true_and, Bool.not_true, Bool.not_false, Bool.false_eq_true, if_false, if_true, hb, l2]
   unfold inT
   cases hasB t f.kn <;> cases leB t.ch f.kn <;> exact ⟨rfl, rfl⟩
 ·by_cases hf : 0 < f.bn
  ·have hb := ypx h' h hf
   simp only [ht, hf, decide_true, decide_false, Bool.and_self, Bool.and_false, Bool.false_and, Bool.true_and, Bool.not_true, Bool.not_false, Bool.false_eq_true, if_false, if_true, hb, l1]
   unfold inF
   cases hasB f t.kn <;> cases leB f.ch t.kn <;> exact ⟨rfl, trivial⟩
  ·simp only [ht, hf, decide_true, decide_false, Bool.and_self, Bool.and_false, Bool.false_and, Bool.true_and, Bool.not_true, Bool.not_false, Bool.false_eq_true, if_false, if_true]
   exact ⟨trivial, trivial⟩
theorem ygv {H : Ev → Prop} {t f : Rec} {gt gf : ycf} (hH : HE H) (h : RG H t gt) (h' : RG H f gf) (e : Ev) : e ∈ yaa gt.heard gf.heard ↔ H e ∧ e.2 ≤ yad t.kn f.kn e.1 := by
 rw [ydb, h.heard, h'.heard]
 constructor
 ·rintro (⟨q, l⟩ | ⟨q, l⟩)
  ·rw [ybk (h.lo _ (hH e q).1)]; exact ⟨q, by omega⟩
  ·rw [ybk (h.lo _ (hH e q).1)]; exact ⟨q, by omega⟩
 ·rintro ⟨q, l⟩
  rw [ybk (h.lo _ (hH e q).1)] at l
  by_cases z : e.2 ≤ t.kn e.1
  ·exact .inl ⟨q, z⟩
  ·exact .inr ⟨q, by omega⟩
theorem whatP_four (t f : Rec) : ydm t f = 0 ∨ ydm t f = 1 ∨ ydm t f = 2 ∨ ydm t f = 3 := by
 unfold ydm inB inF inT
 (repeat' split) <;> simp
theorem yoq {H : Ev → Prop} (hH : HE H) {t f : Rec} {gt gf : ycf} (h : RG H t gt) (h' : RG H f gf) (hV : 0 < t.bn → 0 < f.bn → Ver2 t f gt gf) : (ybv gt gf).2 = (yba t f).2 ∧ RG H (yba t f).1 (ybv gt gf).1 ∧
  (((yba t f).1.bn = t.bn ∧ (yba t f).1.br = t.br ∧ (yba t f).1.ch = t.ch ∧ (ybv gt gf).1.made = gt.made) ∨ ((yba t f).1.bn = f.bn ∧ (yba t f).1.br = f.br ∧ (yba t f).1.ch = f.ch ∧ (ybv gt gf).1.made = gf.made) ∨ ¬ 0 < (yba t f).1.bn) := by
 obtain ⟨d1, d2⟩ := does_eq hH h h' hV
 unfold ybv yba
 rw [d2]
 by_cases hs : yhd f t = true
 ·rw [hs, if_pos rfl] at d1
  rw [if_pos (by rw [hs, Bool.or_true]), if_pos hs]
  exact ⟨d1, h, .inl ⟨rfl, rfl, rfl, rfl⟩⟩
 ·rw [if_neg hs] at d1
  rw [if_neg hs, d1]
  have hs' : yhd f t = false := by simpa using hs
  rw [hs', Bool.or_false]
  by_cases h3 : ydm t f = 3
  ·rw [if_pos (by rw [h3]; rfl), if_pos h3]
   exact ⟨h3, h, .inl ⟨rfl, rfl, rfl, rfl⟩⟩
  ·rw [if_neg (by simpa using h3), if_neg h3]
   have lo : ∀ k < 6, 0 ≤ yad t.kn f.kn k := fun k _ => (yea _ _ k).1
   have nd : (yaa gt.heard gf.heard).Nodup := ycg h.nd.2
   by_cases h1 : ydm t f = 1
   ·rw [if_pos h1, if_pos h1]
    exact ⟨rfl, ⟨h'.there, h'.text, h'.birth, h'.made, h'.top, h'.mt, ygv hH h h', lo, h'.nd.1, nd⟩, .inr (.inl ⟨rfl, rfl, rfl, rfl⟩)⟩
   ·rw [if_neg h1, if_neg h1]
    by_cases h2 : ydm t f = 2
    ·rw [if_pos h2, if_pos h2]
     exact ⟨rfl, ⟨rfl, rfl, fun q => absurd q (by simp), fun e he => by simp at he, fun k _ => .inl rfl, fun _ => rfl, ygv hH h h', lo, List.nodup_nil, nd⟩, .inr (.inr (by simp))⟩
    ·rw [if_neg h2, if_neg h2]
     have h0 : ydm t f = 0 := by
      rcases whatP_four t f with q | q | q | q
      ·exact q
      ·exact absurd q h1
      ·exact absurd q h2
      ·exact absurd q h3
     exact ⟨h0, ⟨h.there, h.text, h.birth, h.made, h.top, h.mt, ygv hH h h', lo, h.nd.1, nd⟩, .inl ⟨rfl, rfl, rfl, rfl⟩⟩
theorem RG.congr {H : Ev → Prop} (hH : HE H) {v v' : Rec} {g : ycf} (h : RG H v g) (hs : ynm v' v) (hz : ¬ 0 < v'.bn → ∀ k < 6, v'.ch k = 0) (hk : ∀ k < 6, v'.kn k = v.kn k) : RG H v' g := by
 have hb := hs.bn
 have sf : 0 < v'.bn → sameF v' v := fun q => by
  rcases hs with z | z
  ·exact absurd q z.1
  ·exact z
 have he : ∀ e, e ∈ g.heard ↔ H e ∧ e.2 ≤ v'.kn e.1 := fun e => by
  rw [h.heard]
  constructor
  ·rintro ⟨q, l⟩; exact ⟨q, by rw [hk _ (hH e q).1]; exact l⟩
  ·rintro ⟨q, l⟩; exact ⟨q, by rw [← hk _ (hH e q).1]; exact l⟩
 have hl : ∀ k < 6, 0 ≤ v'.kn k := fun k q => by rw [hk k q]; exact h.lo k q
 by_cases q : 0 < v'.bn
 ·obtain ⟨f1, f2, f3, f4⟩ := sf q
  refine ⟨by rw [f3]; exact h.there, by rw [f1, f3]; exact h.text, fun z => by rw [f2, f3]; exact h.birth (hb.1 q), by rw [f4]; exact h.made, by rw [f4]; exact h.top, fun z => absurd q z, he, hl, h.nd⟩
 ·have nq : ¬ 0 < v.bn := fun z => q (hb.2 z)
  refine ⟨by rw [h.there, decide_eq_false q, decide_eq_false nq], by rw [h.text, if_neg q, if_neg nq], fun z => absurd z q, fun e z => absurd z (by rw [h.mt nq]; simp), fun k hk => .inl (hz q k hk), fun _ => h.mt nq, he, hl, h.nd⟩
theorem RG.grow {H H' : Ev → Prop} {v v' : Rec} {g : ycf} (h : RG H v g) (hf : v'.text = v.text ∧ v'.br = v.br ∧ v'.bn = v.bn ∧ v'.ch = v.ch) (hH : ∀ e, H e → H' e) (hk : ∀ e, (H' e ∧ e.2 ≤ v'.kn e.1) ↔ (H e ∧ e.2 ≤ v.kn e.1)) (hl : ∀ k < 6, 0 ≤ v'.kn k) : RG H' v' g := by
 obtain ⟨f1, f2, f3, f4⟩ := hf
 exact ⟨by rw [f3]; exact h.there, by rw [f1, f3]; exact h.text, fun q => by rw [f2, f3]; rw [f3] at q; exact ⟨(h.birth q).1, (h.birth q).2.1, hH _ (h.birth q).2.2⟩, fun e he => by rw [f4]; exact ⟨hH _ (h.made e he).1, (h.made e he).2⟩, by rw [f4]; exact h.top, by rw [f3]; exact h.mt, fun e => by rw [hk, h.heard], hl, h.nd⟩
structure HG (n : Nat) (S : List RS) (G : Gst) (H : ByteArray → Ev → Prop) : Prop where
 len : S.length = n
 n6 : n ≤ 6
 ris : ∀ i < n, yay (S.getD i rs0).E
 lo : ∀ i < n, ∀ k, 0 ≤ (S.getD i rs0).cm k
 hc : ∀ i < n, ∀ k < n, (S.getD i rs0).cm k ≤ CS S k
 cnt : ∀ i < n, G.c i = CS S i
 ev : ∀ p e, H p e → e.1 < n ∧ 0 < e.2 ∧ e.2 ≤ CS S e.1
 hi : ∀ i < n, ∀ p, ∀ k < n, (vw i (S.getD i rs0) p).kn k ≤ CS S k
 rg : ∀ i < n, ∀ p, RG (H p) (vw i (S.getD i rs0) p) (G.pa i p)
 ver : ∀ p, ∀ i < n, ∀ j < n, 0 < (vw i (S.getD i rs0) p).bn → 0 < (vw j (S.getD j rs0) p).bn → Ver2 (vw i (S.getD i rs0) p) (vw j (S.getD j rs0) p) (G.pa i p) (G.pa j p)
 kin : ∀ i < n, ∀ x ∈ (S.getD i rs0).E, x.1 ∈ G.ps
 new : ∀ i p, p ∉ G.ps → G.pa i p = yct
 nd : G.ps.Nodup
 okp : ∀ p ∈ G.ps, yat p = true
theorem HG.he {n : Nat} {S : List RS} {G : Gst} {H : ByteArray → Ev → Prop} (h : HG n S G H) (p : ByteArray) : HE (H p) := fun e he => by
 have := h.ev p e he
 have := h.n6
 exact ⟨by omega, by omega⟩
theorem HG.set {n : Nat} {S : List RS} {G : Gst} {H : ByteArray → Ev → Prop} (h : HG n S G H) {r : Nat} (hr : r < n) {x' : RS} {G' : Gst} {H' : ByteArray → Ev → Prop}
  (hris : yay x'.E) (hlo : ∀ k, 0 ≤ x'.cm k) (c0 : CS S r ≤ x'.cm r) (hcm : ∀ k < n, k ≠ r → x'.cm k ≤ CS S k)
  (hcnt : ∀ i < n, G'.c i = if i = r then x'.cm r else G.c i)
  (hH : ∀ p e, H p e → H' p e) (hH' : ∀ p e, H' p e → H p e ∨ (e.1 = r ∧ CS S r < e.2 ∧ e.2 ≤ x'.cm r))
  (hoth : ∀ i, i ≠ r → ∀ p, G'.pa i p = G.pa i p)
  (hhi : ∀ p, ∀ k < n, k ≠ r → (vw r x' p).kn k ≤ CS S k)
  (hrg : ∀ p, RG (H' p) (vw r x' p) (G'.pa r p))
  (hver : ∀ p, 0 < (vw r x' p).bn → (∃ j < n, (vw r x' p).br = (vw j (S.getD j rs0) p).br ∧ (vw r x' p).bn = (vw j (S.getD j rs0) p).bn ∧ (∀ k < 6, (vw r x' p).ch k = (vw j (S.getD j rs0) p).ch k) ∧ ∀ e, e ∈ (G'.pa r p).made ↔ e ∈ (G.pa j p).made) ∨ CS S r < (vw r x' p).ch r)
  (hkin : ∀ x ∈ x'.E, x.1 ∈ G'.ps) (hps : ∀ p ∈ G.ps, p ∈ G'.ps) (hnew : ∀ i p, p ∉ G'.ps → G'.pa i p = yct) (hnd : G'.ps.Nodup) (hokp : ∀ p ∈ G'.ps, yat p = true) : HG n (S.set r x') G' H' := by
 have hrS : r < S.length := by rw [h.len]; exact hr
 have es : (S.set r x').getD r rs0 = x' := yny hrS x'
 have en : ∀ i, i ≠ r → (S.set r x').getD i rs0 = S.getD i rs0 := fun i hi => ykz (fun q => hi q.symm) x'
 have cs : CS (S.set r x') r = x'.cm r := by unfold CS; rw [es]
 have cn : ∀ i, i ≠ r → CS (S.set r x') i = CS S i := fun i hi => CS_set_ne (fun q => hi q.symm) x'
 have cl : ∀ i, CS S i ≤ CS (S.set r x') i := fun i => by
  by_cases q : i = r
  ·subst q; rw [cs]; exact c0
  ·rw [cn i q]; exact Int.le_refl _
 have n6 := h.n6
 have chr : ∀ j < n, ∀ p, (vw j (S.getD j rs0) p).ch r ≤ CS S r := fun j hj p => by
  rcases (h.rg j hj p).top r (by omega) with q | q
  ·rw [q]; exact h.lo r hr r
  ·exact (h.ev p _ ((h.rg j hj p).made _ q).1).2.2
 refine ⟨by rw [List.length_set]; exact h.len, h.n6, fun i hi => ?_, fun i hi => ?_, fun i hi k hk => ?_, fun i hi => ?_, fun p e he => ?_, fun i hi p k hk => ?_, fun i hi p => ?_, fun p i hi j hj hb hb' => ?_, fun i hi x hx => ?_, hnew, hnd, hokp⟩
 ·by_cases q : i = r
  ·subst q; rw [es]; exact hris
  ·rw [en i q]; exact h.ris i hi
 ·by_cases q : i = r
  ·subst q; rw [es]; exact hlo
  ·rw [en i q]; exact h.lo i hi
 ·by_cases q : i = r
  ·subst q
   rw [es]
   by_cases q' : k = i
   ·subst q'; rw [cs]; exact Int.le_refl _
   ·rw [cn k q']; exact hcm k hk q'
  ·rw [en i q]; exact Int.le_trans (h.hc i hi k hk) (cl k)
 ·rw [hcnt i hi]
  by_cases q : i = r
  ·subst q; rw [if_pos rfl, cs]
  ·rw [if_neg q, cn i q, h.cnt i hi]
 ·rcases hH' p e he with q | ⟨q1, q2, q3⟩
  ·obtain ⟨z1, z2, z3⟩ := h.ev p e q
   exact ⟨z1, z2, Int.le_trans z3 (cl _)⟩
  ·have c1 : 0 ≤ CS S r := h.lo r hr r
   rw [q1, cs]
   exact ⟨hr, by omega, q3⟩
 ·by_cases q : i = r
  ·subst q
   rw [es]
   by_cases q' : k = i
   ·subst q'; rw [yno, cs]; exact Int.le_refl _
   ·rw [cn k q']; exact hhi p k hk q'
  ·rw [en i q]; exact Int.le_trans (h.hi i hi p k hk) (cl k)
 ·by_cases q : i = r
  ·subst q; rw [es]; exact hrg p
  ·rw [en i q, hoth i q p]
   refine (h.rg i hi p).grow ⟨rfl, rfl, rfl, rfl⟩ (hH p) (fun e => ?_) (h.rg i hi p).lo
   constructor
   ·rintro ⟨z, l⟩
    rcases hH' p e z with y | ⟨y1, y2, _⟩
    ·exact ⟨y, l⟩
    ·exfalso
     have := h.hi i hi p r hr
     rw [y1] at l
     omega
   ·rintro ⟨z, l⟩; exact ⟨hH p e z, l⟩
 ·have key : ∀ j < n, j ≠ r → 0 < (vw r x' p).bn → 0 < (vw j (S.getD j rs0) p).bn → Ver2 (vw r x' p) (vw j (S.getD j rs0) p) (G'.pa r p) (G.pa j p) := by
   intro j hj hjr b1 b2 e1 e2 e3 e
   rcases hver p b1 with ⟨m, hm, a1, a2, a3, a4⟩ | q
   ·rw [a4]
    exact h.ver p m hm j hj (by rw [← a2]; exact b1) b2 (by rw [← a1]; exact e1) (by rw [← a2]; exact e2) (fun k hk => by rw [← a3 k hk]; exact e3 k hk) e
   ·exfalso
    have := chr j hj p
    rw [e3 r (by omega)] at q
    omega
  by_cases q : i = r
  ·subst q
   rw [es] at hb ⊢
   by_cases q' : j = i
   ·subst q'; rw [es]; intro _ _ _ e; exact Iff.rfl
   ·rw [en j q'] at hb' ⊢
    rw [hoth j q' p]
    exact key j hj q' hb hb'
  ·rw [en i q] at hb ⊢
   rw [hoth i q p]
   by_cases q' : j = r
   ·subst q'
    rw [es] at hb' ⊢
    intro e1 e2 e3 e
    exact (key i hi q hb' hb e1.symm e2.symm (fun k hk => (e3 k hk).symm) e).symm
   ·rw [en j q'] at hb' ⊢
    rw [hoth j q' p]
    exact h.ver p i hi j hj hb hb'
 ·by_cases q : i = r
  ·subst q; rw [es] at hx; exact hkin x hx
  ·rw [en i q] at hx; exact hps _ (h.kin i hi x hx)
theorem vw_kept {i : Nat} {cm : Nat → Int} {p : ByteArray} {R : Rec} {E : yav} (hE : yay E) (hR : R.kn i = cm i) : ynm (vw i ⟨cm, ybl cm p R E⟩ p) R ∧ (∀ k < 6, (vw i ⟨cm, ybl cm p R E⟩ p).kn k = R.kn k) ∧ ((¬ 0 < R.bn → ∀ k < 6, R.ch k = 0) → ¬ 0 < (vw i ⟨cm, ybl cm p R E⟩ p).bn → ∀ k < 6, (vw i ⟨cm, ybl cm p R E⟩ p).ch k = 0) := by
 have e : vw i ⟨cm, ybl cm p R E⟩ p = ybp i cm (kept cm R) := by
  unfold vw
  show ybp i cm (ybb p (ybl cm p R E)) = _
  rw [ykd hE, if_pos rfl]
 rw [e]
 unfold kept
 split
 ·refine ⟨.inr ⟨rfl, rfl, rfl, rfl⟩, fun k hk => ?_, fun h h' => h h'⟩
  show upT R.kn i (cm i) k = _
  unfold upT
  split
  ·next q => rw [q, hR]
  ·rfl
 ·next hk =>
  simp only [Bool.or_eq_true, decide_eq_true_eq, not_or] at hk
  refine ⟨.inl ⟨by simp [ybp], hk.1⟩, fun k hk' => ?_, fun _ _ _ _ => rfl⟩
  have : eqT R.kn cm = true := by simpa using hk.2
  exact (ynw this k hk').symm
theorem ype {i : Nat} {cm : Nat → Int} {p q : ByteArray} {R : Rec} {E : yav} (hE : yay E) (hq : q ≠ p) : vw i ⟨cm, ybl cm p R E⟩ q = ybp i cm (ybb q E) := by
 unfold vw
 show ybp i cm (ybb q (ybl cm p R E)) = _
 rw [ykd hE, if_neg hq]
theorem nxG_eq {s : Nat} (hs : s < 6) {cm : Nat → Int} (h : ∀ k, 0 ≤ cm k) (k : Nat) : nxG s cm k = if k = s then cm s + 1 else cm k := by
 unfold nxG
 rw [ybk (h k), tf_eq _ _ _ hs]
 have := h k
 split
 ·next q => subst q; omega
 ·omega
theorem keepE_in {cm : Nat → Int} {p : ByteArray} {R : Rec} {E : yav} (hE : yay E) {x : ByteArray × Rec} (h : x ∈ ybl cm p R E) : x.1 = p ∨ x ∈ E ∨ ∃ y ∈ E, y.1 = x.1 := by
 by_cases q : x.1 = p
 ·exact .inl q
 ·have h1 := yic h
  rw [ykd hE, if_neg q] at h1
  obtain ⟨R', hR⟩ := Option.isSome_iff_exists.1 h1
  exact .inr (.inr ⟨_, yeb hR, rfl⟩)
theorem HG.event {n : Nat} {S : List RS} {G : Gst} {H : ByteArray → Ev → Prop} (h : HG n S G H) {r : Nat} (hr : r < n) {p : ByteArray} (hp : yat p = true) {R : Rec} {g : ycf} {H1 : Ev → Prop} (hH1 : ∀ e, H1 e ↔ H p e ∨ e = (r, CS S r + 1))
  (hk : R.kn r = CS S r + 1) (hRG : RG H1 R g) (hle : ∀ k < n, k ≠ r → R.kn k ≤ CS S k) (hv : 0 < R.bn → CS S r < R.ch r) :
  HG n (S.set r ⟨nxG r (S.getD r rs0).cm, ybl (nxG r (S.getD r rs0).cm) p R (S.getD r rs0).E⟩) ⟨fun i => if i = r then G.c r + 1 else G.c i, yan p G.ps, ybn G.pa r p g⟩ (fun q => if q = p then H1 else H q) := by
 have n6 := h.n6
 have hE := h.ris r hr
 have lo := h.lo r hr
 have nx := fun k => nxG_eq (s := r) (by omega) lo k
 have nr : nxG r (S.getD r rs0).cm r = CS S r + 1 := by rw [nx, if_pos rfl]; rfl
 obtain ⟨v1, v2, v3⟩ := vw_kept (i := r) (cm := nxG r (S.getD r rs0).cm) (p := p) (R := R) hE (by rw [hk, nr])
 have hE1 : HE H1 := fun e he => by
  rcases (hH1 e).1 he with q | rfl
  ·exact h.he p e q
  ·have c0 : 0 ≤ CS S r := lo r
   exact ⟨by show r < 6; omega, by show 0 < CS S r + 1; omega⟩
 refine h.set hr (ybx _ _ _ _ hE) (fun k => nxG_lo _ _ _) (by show CS S r ≤ nxG r _ r; rw [nr]; omega) (fun k hk hkr => by show nxG r _ k ≤ _; rw [nx, if_neg hkr]; exact h.hc r hr k hk) (fun i hi => ?_) (fun q e he => ?_) (fun q e he => ?_) (fun i hi q => ytg hi) (fun q k hk hkr => ?_) (fun q => ?_) (fun q hb => ?_) (fun x hx => ?_) (fun q hq => ydr.2 (.inl hq)) (fun i q hq => ?_) (yaw h.nd) (fun q hq => ?_)
 ·show (if i = r then G.c r + 1 else G.c i) = if i = r then nxG r _ r else G.c i
  rw [nr, h.cnt r hr]
 ·show (if q = p then H1 else H q) e
  split
  ·next z => subst z; exact (hH1 e).2 (.inl he)
  ·exact he
 ·change (if q = p then H1 else H q) e at he
  split at he
  ·next z =>
   subst z
   rcases (hH1 e).1 he with y | rfl
   ·exact .inl y
   ·exact .inr ⟨rfl, by show CS S r < CS S r + 1; omega, by show CS S r + 1 ≤ nxG r _ r; rw [nr]; exact Int.le_refl _⟩
  ·exact .inl he
 ·by_cases z : q = p
  ·subst z
   rw [v2 k (by omega)]
   exact hle k hk hkr
  ·rw [ype hE z]
   have h1 := h.hi r hr q k hk
   unfold vw at h1
   cases hg : ybb q (S.getD r rs0).E with
   |none =>
    show nxG r _ k ≤ _
    rw [nx, if_neg hkr]
    exact h.hc r hr k hk
   |some R0 =>
    rw [hg] at h1
    have h1' : upT R0.kn r ((S.getD r rs0).cm r) k ≤ CS S k := h1
    show upT R0.kn r (nxG r _ r) k ≤ _
    unfold upT at h1' ⊢
    rw [if_neg hkr] at h1' ⊢
    exact h1'
 ·show RG (if q = p then H1 else H q) _ (ybn G.pa r p g r q)
  by_cases z : q = p
  ·subst z
   rw [if_pos rfl, ydd]
   exact hRG.congr hE1 v1 (v3 (fun nb k hk => hRG.chz nb k hk)) v2
  ·rw [if_neg z, yht z, ype hE z]
   have h1 := h.rg r hr q
   have ownq : (vw r (S.getD r rs0) q).kn r = CS S r := yno _ _ _
   have kq : ∀ k, k ≠ r → (ybp r (nxG r (S.getD r rs0).cm) (ybb q (S.getD r rs0).E)).kn k = (vw r (S.getD r rs0) q).kn k := by
    intro k hkr
    unfold vw
    cases ybb q (S.getD r rs0).E with
    |none => show nxG r _ k = _; rw [nx, if_neg hkr]; rfl
    |some R0 => show upT R0.kn r _ k = upT R0.kn r _ k; unfold upT; rw [if_neg hkr, if_neg hkr]
   have kr : (ybp r (nxG r (S.getD r rs0).cm) (ybb q (S.getD r rs0).E)).kn r = CS S r + 1 := by
    cases ybb q (S.getD r rs0).E with
    |none => exact nr
    |some R0 => show upT R0.kn r _ r = _; unfold upT; rw [if_pos rfl, nr]
   refine h1.grow ?_ (fun e he => he) (fun e => ?_) (fun k hk => ?_)
   ·unfold vw
    cases ybb q (S.getD r rs0).E with
    |none => exact ⟨rfl, rfl, rfl, rfl⟩
    |some R0 => exact ⟨rfl, rfl, rfl, rfl⟩
   ·constructor
    ·rintro ⟨a, b⟩
     refine ⟨a, ?_⟩
     by_cases y : e.1 = r
     ·rw [y, ownq, ← y]; exact (h.ev q e a).2.2
     ·rw [← kq _ y]; exact b
    ·rintro ⟨a, b⟩
     refine ⟨a, ?_⟩
     by_cases y : e.1 = r
     ·rw [y, ownq] at b; rw [y, kr]; omega
     ·rw [kq _ y]; exact b
   ·by_cases y : k = r
    ·have c0 : 0 ≤ CS S r := lo r
     rw [y, kr]; omega
    ·rw [kq _ y]; exact h1.lo k hk
 ·by_cases z : q = p
  ·subst z
   refine .inr ?_
   have b1 := v1.bn.1 hb
   rcases v1 with y | y
   ·exact absurd hb y.1
   ·rw [y.2.2.2]; exact hv b1
  ·refine .inl ⟨r, hr, ?_⟩
   show _ ∧ _ ∧ _ ∧ ∀ e, e ∈ (ybn G.pa r p g r q).made ↔ _
   rw [ype hE z, yht z]
   unfold vw
   cases ybb q (S.getD r rs0).E with
   |none => exact ⟨rfl, rfl, fun _ _ => rfl, fun _ => Iff.rfl⟩
   |some R0 => exact ⟨rfl, rfl, fun _ _ => rfl, fun _ => Iff.rfl⟩
 ·refine ydr.2 ?_
  rcases keepE_in hE hx with z | z | ⟨y, hy, z⟩
  ·exact .inr z
  ·exact .inl (h.kin r hr x z)
  ·rw [← z]; exact .inl (h.kin r hr y hy)
 ·have z := fun y => hq (ydr.2 y)
  have zp : q ≠ p := fun y => z (.inr y)
  show ybn G.pa r p g i q = _
  rw [yht zp]
  exact h.new i q (fun y => z (.inl y))
 ·rcases ydr.1 hq with z | rfl
  ·exact h.okp q z
  ·exact hp
theorem yob {H H1 : Ev → Prop} {r : Nat} {c : Int} (hr : r < 6) (hH : HE H) (hH1 : ∀ e, H1 e ↔ H e ∨ e = (r, c + 1)) (hc : ∀ e, H e → e.1 = r → e.2 ≤ c) {K K' : Nat → Int} {hd : List Ev} (hK : ∀ e, e ∈ hd ↔ H e ∧ e.2 ≤ K e.1) (hKr : K r = c) (hK' : ∀ k < 6, K' k = if k = r then c + 1 else K k) (e : Ev) : e ∈ yaa hd [(r, c + 1)] ↔ H1 e ∧ e.2 ≤ K' e.1 := by
 rw [ydb, hK, hH1, List.mem_singleton]
 constructor
 ·rintro (⟨q, l⟩ | rfl)
  ·refine ⟨.inl q, ?_⟩
   rw [hK' _ (hH e q).1]
   split
   ·next z => have := hc e q z; omega
   ·exact l
  ·refine ⟨.inr rfl, ?_⟩
   show c + 1 ≤ K' r
   rw [hK' r hr, if_pos rfl]
   exact Int.le_refl _
 ·rintro ⟨q | rfl, l⟩
  ·refine .inl ⟨q, ?_⟩
   rw [hK' _ (hH e q).1] at l
   split at l
   ·next z => rw [z, hKr]; exact hc e q z
   ·exact l
  ·exact .inr rfl
def bump (G : Gst) (r : Nat) (p : ByteArray) (g : ycf) : Gst := ⟨fun i => if i = r then G.c r + 1 else G.c i, yan p G.ps, ybn G.pa r p g⟩
section
variable {n : Nat} {S : List RS} {G : Gst} {H : ByteArray → Ev → Prop}
theorem HG.chle (h : HG n S G H) {i : Nat} (hi : i < n) (p : ByteArray) (k : Nat) (hk : k < n) : (vw i (S.getD i rs0) p).ch k ≤ CS S k := by
 have n6 := h.n6
 rcases (h.rg i hi p).top k (by omega) with q | q
 ·rw [q]; exact h.lo k hk k
 ·exact (h.ev p _ ((h.rg i hi p).made _ q).1).2.2
theorem HG.write (h : HG n S G H) {r : Nat} (hr : r < n) {p t : ByteArray} (hp : yat p = true) (ho : (wrR r (S.getD r rs0) p t).1 = 0) : ∃ H', HG n (S.set r (wrR r (S.getD r rs0) p t).2) (bump G r p (wrP (G.pa r p) (r, G.c r + 1) t)) H' := by
 have n6 := h.n6
 have hr6 : r < 6 := by omega
 unfold wrR at ho ⊢
 split at ho
 ·simp at ho
 ·next hc =>
  rw [if_neg hc]
  clear ho hc
  have hv := h.rg r hr p
  have hch := h.chle hr p
  have own : (vw r (S.getD r rs0) p).kn r = CS S r := yno _ _ _
  have hhi := h.hi r hr p
  change RG _ (vw r (S.getD r rs0) p) _ at hv
  show ∃ H', HG n (S.set r ⟨nxG r (S.getD r rs0).cm, ybl (nxG r (S.getD r rs0).cm) p (ydq r (CS S r + 1) t (vw r (S.getD r rs0) p)) (S.getD r rs0).E⟩) _ H'
  rw [h.cnt r hr]
  generalize vw r (S.getD r rs0) p = v at *
  have c0 : 0 ≤ CS S r := h.lo r hr r
  have hH := h.he p
  have hev := h.ev p
  have e1 : ∀ k < 6, yad v.kn (tf r (CS S r + 1)) k = if k = r then CS S r + 1 else v.kn k := fun k hk => by
   rw [ybk (hv.lo k hk), tf_eq _ _ _ hr6]
   have := hv.lo k hk
   split
   ·next z => subst z; omega
   ·omega
  have e2 : ∀ k < 6, yad v.ch (tf r (CS S r + 1)) k = if k = r then CS S r + 1 else v.ch k := fun k hk => by
   rw [ybk (hv.ch0 hH k hk), tf_eq _ _ _ hr6]
   have := hv.ch0 hH k hk
   split
   ·next z => subst z; have := hch _ hr; omega
   ·omega
  refine ⟨_, h.event hr hp (R := ydq r (CS S r + 1) t v) (H1 := fun e => H p e ∨ e = (r, CS S r + 1)) (fun e => Iff.rfl) ?_ ?_ (fun k hk hkr => ?_) (fun _ => ?_)⟩
  ·show yad v.kn _ r = _
   rw [e1 r hr6, if_pos rfl]
  ·have bn : 0 < (ydq r (CS S r + 1) t v).bn := by
    show 0 < (if 0 < v.bn then v.bn else CS S r + 1)
    split
    ·next z => exact z
    ·omega
   refine ⟨?_, ?_, fun _ => ?_, fun e he => ?_, fun k hk => ?_, fun z => absurd bn z, fun e => ?_, fun k hk => (yea _ _ _).1, ?_, ?_⟩
   ·show true = _
    rw [decide_eq_true bn]
   ·rw [if_pos bn]; rfl
   ·show (if 0 < v.bn then v.br else (r : Int)) = ((if (G.pa r p).there = true then (G.pa r p).birth else (r, CS S r + 1)).1 : Int) ∧ (if 0 < v.bn then v.bn else CS S r + 1) = (if (G.pa r p).there = true then (G.pa r p).birth else (r, CS S r + 1)).2 ∧ _
    by_cases z : 0 < v.bn
    ·have z' : (G.pa r p).there = true := by rw [hv.there, decide_eq_true z]
     obtain ⟨b1, b2, b3⟩ := hv.birth z
     rw [if_pos z, if_pos z, if_pos z']
     exact ⟨b1, b2, .inl (by show H p (if (G.pa r p).there = true then _ else _); rw [if_pos z']; exact b3)⟩
    ·have z' : ¬ (G.pa r p).there = true := by rw [hv.there, decide_eq_false z]; simp
     rw [if_neg z, if_neg z, if_neg z']
     exact ⟨rfl, rfl, .inr (by show (if (G.pa r p).there = true then _ else _) = _; rw [if_neg z'])⟩
   ·change e ∈ yaa (if (G.pa r p).there = true then (G.pa r p).made else []) [(r, CS S r + 1)] at he
    show _ ∧ e.2 ≤ yad v.ch (tf r (CS S r + 1)) e.1
    rw [ydb, List.mem_singleton] at he
    rcases he with q | rfl
    ·split at q
     ·obtain ⟨m1, m2⟩ := hv.made e q
      refine ⟨.inl m1, Int.le_trans m2 (yea _ _ _).2.1⟩
     ·cases q
    ·refine ⟨.inr rfl, ?_⟩
     show CS S r + 1 ≤ yad v.ch _ r
     rw [e2 r hr6, if_pos rfl]
     exact Int.le_refl _
   ·show yad v.ch (tf r (CS S r + 1)) k = 0 ∨ (k, yad v.ch (tf r (CS S r + 1)) k) ∈ yaa (if (G.pa r p).there = true then (G.pa r p).made else []) [(r, CS S r + 1)]
    rw [e2 k hk, ydb, List.mem_singleton]
    by_cases z : k = r
    ·rw [if_pos z, z]; exact .inr (.inr rfl)
    ·rw [if_neg z]
     by_cases y : 0 < v.bn
     ·have z' : (G.pa r p).there = true := by rw [hv.there, decide_eq_true y]
      rw [if_pos z']
      rcases hv.top k hk with q | q
      ·exact .inl q
      ·exact .inr (.inl q)
     ·exact .inl (hv.chz y k hk)
   ·exact yob hr6 hH (fun e => Iff.rfl) (fun e he z => by rw [← z]; exact (hev e he).2.2) hv.heard own e1 e
   ·show (yaa (if (G.pa r p).there = true then (G.pa r p).made else []) [(r, CS S r + 1)]).Nodup
    apply ycg
    split
    ·exact hv.nd.1
    ·exact List.nodup_nil
   ·exact ycg hv.nd.2
  ·show yad v.kn _ k ≤ _
   rw [e1 k (by omega), if_neg hkr]
   exact hhi k hk
  ·show _ < yad v.ch _ r
   rw [e2 r hr6, if_pos rfl]
   omega
theorem HG.remove (h : HG n S G H) {r : Nat} (hr : r < n) {p : ByteArray} (hp : yat p = true) (ho : (rmR r (S.getD r rs0) p).1 = 0) : ∃ H', HG n (S.set r (rmR r (S.getD r rs0) p).2) (bump G r p (rmP (G.pa r p) (r, G.c r + 1))) H' := by
 have n6 := h.n6
 have hr6 : r < 6 := by omega
 unfold rmR at ho ⊢
 split at ho
 ·simp at ho
 ·next hc =>
  rw [if_neg hc]
  split at ho
  ·simp at ho
  ·next hc' =>
   rw [if_neg hc']
   clear ho hc hc'
   have hv := h.rg r hr p
   have own : (vw r (S.getD r rs0) p).kn r = CS S r := yno _ _ _
   have hhi := h.hi r hr p
   show ∃ H', HG n (S.set r ⟨nxG r (S.getD r rs0).cm, ybl (nxG r (S.getD r rs0).cm) p (ygy r (CS S r + 1) (vw r (S.getD r rs0) p)) (S.getD r rs0).E⟩) _ H'
   rw [h.cnt r hr]
   generalize vw r (S.getD r rs0) p = v at *
   have c0 : 0 ≤ CS S r := h.lo r hr r
   have hH := h.he p
   have hev := h.ev p
   have e1 : ∀ k < 6, yad v.kn (tf r (CS S r + 1)) k = if k = r then CS S r + 1 else v.kn k := fun k hk => by
    rw [ybk (hv.lo k hk), tf_eq _ _ _ hr6]
    have := hv.lo k hk
    split
    ·next z => subst z; omega
    ·omega
   refine ⟨_, h.event hr hp (R := ygy r (CS S r + 1) v) (H1 := fun e => H p e ∨ e = (r, CS S r + 1)) (fun e => Iff.rfl) ?_ ?_ (fun k hk hkr => ?_) (fun z => absurd z (by show ¬ 0 < (0 : Int); omega))⟩
   ·show yad v.kn _ r = _
    rw [e1 r hr6, if_pos rfl]
   ·have nb : ¬ 0 < (ygy r (CS S r + 1) v).bn := by show ¬ 0 < (0 : Int); omega
    refine ⟨?_, ?_, fun z => absurd z nb, fun e he => ?_, fun k hk => .inl rfl, fun z => rfl, fun e => ?_, fun k hk => (yea _ _ _).1, List.nodup_nil, ?_⟩
    ·rw [decide_eq_false nb]; rfl
    ·rw [if_neg nb]; rfl
    ·exact absurd he (by show e ∉ []; simp)
    ·exact yob hr6 hH (fun e => Iff.rfl) (fun e he z => by rw [← z]; exact (hev e he).2.2) hv.heard own e1 e
    ·exact ycg hv.nd.2
   ·show yad v.kn _ k ≤ _
    rw [e1 k (by omega), if_neg hkr]
    exact hhi k hk
theorem HG.resolve (h : HG n S G H) {a b : Nat} (ha : a < n) (hb : b < n) {p : ByteArray} (hp : yat p = true) {th : Bool} (ho : (rsR a (S.getD a rs0) b (S.getD b rs0) p th).1 = 0) : yap (G.pa a p) (G.pa b p) = 3 ∧ ∃ H', HG n (S.set a (rsR a (S.getD a rs0) b (S.getD b rs0) p th).2) (bump G a p (rsP (G.pa a p) (G.pa b p) (a, G.c a + 1) th)) H' := by
 have n6 := h.n6
 have hr6 : a < 6 := by omega
 have hpl := yoq (h.he p) (h.rg a ha p) (h.rg b hb p) (h.ver p a ha b hb)
 unfold rsR rsRec at ho ⊢
 split at ho
 ·simp at ho
 ·next hc =>
  rw [if_neg hc]
  split at ho
  ·simp at ho
  ·next hc' =>
   rw [if_neg hc']
   have h3 : (yba (vw a (S.getD a rs0) p) (vw b (S.getD b rs0) p)).2 = 3 := by
    simp only [beq_eq_false_iff_ne, ne_eq, Classical.not_not] at hc
    exact hc
   refine ⟨by rw [← yll, hpl.1, h3], ?_⟩
   clear ho hc hc' hpl
   have hv := h.rg a ha p
   have hu := h.rg b hb p
   have own : (vw a (S.getD a rs0) p).kn a = CS S a := yno _ _ _
   have hhi := h.hi a ha p
   have hhu := h.hi b hb p
   have hcv := h.chle ha p
   have hcu := h.chle hb p
   show ∃ H', HG n (S.set a ⟨nxG a (S.getD a rs0).cm, ybl (nxG a (S.getD a rs0).cm) p (ybj a (CS S a + 1) (vw a (S.getD a rs0) p) (vw b (S.getD b rs0) p) (ydw th (vw a (S.getD a rs0) p) (vw b (S.getD b rs0) p))) (S.getD a rs0).E⟩) _ H'
   rw [h.cnt a ha]
   generalize vw a (S.getD a rs0) p = v at *
   generalize vw b (S.getD b rs0) p = u at *
   have c0 : 0 ≤ CS S a := h.lo a ha a
   have hH := h.he p
   have hev := h.ev p
   have ek : (ybj a (CS S a + 1) v u (ydw th v u)).kn = yad v.kn (yad u.kn (tf a (CS S a + 1))) := by
    have q1 : (yah a (CS S a + 1) v u (ydw th v u)).kn = v.kn := by
     unfold yah
     cases th <;> (split <;> rfl)
    show yad (yah a (CS S a + 1) v u (ydw th v u)).kn _ = _
    rw [q1]
   have e1 : ∀ k < 6, yad v.kn (yad u.kn (tf a (CS S a + 1))) k = if k = a then CS S a + 1 else yad v.kn u.kn k := fun k hk => by
    rw [ybk (hv.lo k hk), ybk (hu.lo k hk), ybk (hv.lo k hk), tf_eq _ _ _ hr6]
    have l1 := hv.lo k hk
    have l2 := hu.lo k hk
    split
    ·next z => subst z; have := hhu _ ha; omega
    ·omega
   have e0 : yad v.kn u.kn a = CS S a := by
    rw [ybk (hv.lo a hr6), own]
    have := hhu a ha
    omega
   have e2 : ∀ k < 6, g3 v.ch u.ch (tf a (CS S a + 1)) k = if k = a then CS S a + 1 else max (v.ch k) (u.ch k) := fun k hk => by
    unfold g3
    rw [ybk (hv.ch0 hH k hk), tf_eq _ _ _ hr6]
    have l1 := hv.ch0 hH k hk
    have l2 := hu.ch0 hH k hk
    by_cases z : k = a
    ·subst z
     have l3 := hcv _ ha
     have l4 := hcu _ ha
     rw [if_pos rfl, if_pos (by omega), if_pos rfl]
    ·rw [if_neg z, if_neg (by omega), if_neg z]
   have hx : RG (H p) (ydw th v u) ⟨(if th = true then G.pa b p else G.pa a p).there, (if th = true then G.pa b p else G.pa a p).text, (if th = true then G.pa b p else G.pa a p).birth, (if th = true then G.pa b p else G.pa a p).made, (G.pa a p).heard⟩ := by
    cases th with
    |false => exact hv
    |true => exact ⟨hu.there, hu.text, hu.birth, hu.made, hu.top, hu.mt, hv.heard, hv.lo, hu.nd.1, hv.nd.2⟩
   have hth : (if th = true then G.pa b p else G.pa a p).there = decide (0 < (ydw th v u).bn) := hx.there
   have htx := hx.text
   have hbi := hx.birth
   have hma := hx.made
   have hto := hx.top
   have hmt := hx.mt
   have hnd := hx.nd.1
   simp only at htx hbi hma hto hmt hnd
   have hheard : ∀ e, e ∈ yaa (yaa (G.pa a p).heard (G.pa b p).heard) [(a, CS S a + 1)] ↔ (H p e ∨ e = (a, CS S a + 1)) ∧ e.2 ≤ yad v.kn (yad u.kn (tf a (CS S a + 1))) e.1 := fun e => yob hr6 hH (fun e => Iff.rfl) (fun e he z => by rw [← z]; exact (hev e he).2.2) (ygv hH hv hu) e0 e1 e
   refine ⟨_, h.event ha hp (R := ybj a (CS S a + 1) v u (ydw th v u)) (H1 := fun e => H p e ∨ e = (a, CS S a + 1)) (fun e => Iff.rfl) ?_ ?_ (fun k hk hkr => ?_) (fun z => ?_)⟩
   ·rw [ek, e1 a hr6, if_pos rfl]
   ·unfold rsP
    generalize (if th = true then G.pa b p else G.pa a p) = X at *
    generalize ydw th v u = Y at *
    have eknd : (yaa (yaa (G.pa a p).heard (G.pa b p).heard) [(a, CS S a + 1)]).Nodup := ycg (ycg hv.nd.2)
    by_cases z : 0 < Y.bn
    ·have z' : X.there = true := by rw [hth, decide_eq_true z]
     have es : yah a (CS S a + 1) v u Y = ⟨Y.text, a, CS S a + 1, g3 v.ch u.ch (tf a (CS S a + 1)), Y.kn⟩ := by unfold yah; rw [if_pos (decide_eq_true z)]
     have bn : 0 < (ybj a (CS S a + 1) v u Y).bn := by show 0 < (yah a (CS S a + 1) v u Y).bn; rw [es]; show 0 < CS S a + 1; omega
     refine ⟨?_, ?_, fun _ => ?_, fun e he => ?_, fun k hk => ?_, fun y => absurd bn y, fun e => ?_, fun k hk => ?_, ?_, eknd⟩
     ·rw [decide_eq_true bn]; exact z'
     ·rw [if_pos bn]
      show X.text = (yah a (CS S a + 1) v u Y).text
      rw [es, htx, if_pos z]
     ·show (yah a (CS S a + 1) v u Y).br = ((if X.there = true then (a, CS S a + 1) else X.birth).1 : Int) ∧ (yah a (CS S a + 1) v u Y).bn = (if X.there = true then (a, CS S a + 1) else X.birth).2 ∧ (H p (if X.there = true then (a, CS S a + 1) else X.birth) ∨ (if X.there = true then (a, CS S a + 1) else X.birth) = (a, CS S a + 1))
      rw [es, if_pos z']
      exact ⟨rfl, rfl, .inr rfl⟩
     ·change e ∈ (if X.there = true then yaa (yaa (G.pa a p).made (G.pa b p).made) [(a, CS S a + 1)] else X.made) at he
      show _ ∧ e.2 ≤ (yah a (CS S a + 1) v u Y).ch e.1
      rw [if_pos z', ydb, ydb, List.mem_singleton] at he
      rw [es]
      show _ ∧ e.2 ≤ g3 v.ch u.ch (tf a (CS S a + 1)) e.1
      have old : H p e → e.2 ≤ max (v.ch e.1) (u.ch e.1) → (H p e ∨ e = (a, CS S a + 1)) ∧ e.2 ≤ g3 v.ch u.ch (tf a (CS S a + 1)) e.1 := fun m1 m2 => by
       refine ⟨.inl m1, ?_⟩
       rw [e2 _ (hH e m1).1]
       split
       ·next y => have := (hev e m1).2.2; rw [y] at this; omega
       ·exact m2
      rcases he with (q | q) | rfl
      ·obtain ⟨m1, m2⟩ := hv.made e q
       exact old m1 (by omega)
      ·obtain ⟨m1, m2⟩ := hu.made e q
       exact old m1 (by omega)
      ·refine ⟨.inr rfl, ?_⟩
       show CS S a + 1 ≤ g3 _ _ _ a
       rw [e2 a hr6, if_pos rfl]
       exact Int.le_refl _
     ·show (yah a (CS S a + 1) v u Y).ch k = 0 ∨ (k, (yah a (CS S a + 1) v u Y).ch k) ∈ (if X.there = true then yaa (yaa (G.pa a p).made (G.pa b p).made) [(a, CS S a + 1)] else X.made)
      rw [es, if_pos z', ydb, ydb, List.mem_singleton]
      show g3 v.ch u.ch (tf a (CS S a + 1)) k = 0 ∨ ((k, g3 v.ch u.ch (tf a (CS S a + 1)) k) ∈ _ ∨ (k, g3 v.ch u.ch (tf a (CS S a + 1)) k) ∈ _) ∨ (k, g3 v.ch u.ch (tf a (CS S a + 1)) k) = _
      rw [e2 k hk]
      by_cases y : k = a
      ·rw [if_pos y, y]; exact .inr (.inr rfl)
      ·rw [if_neg y]
       have l1 := hv.ch0 hH k hk
       have l2 := hu.ch0 hH k hk
       by_cases g : u.ch k ≤ v.ch k
       ·rw [show max (v.ch k) (u.ch k) = v.ch k by omega]
        rcases hv.top k hk with q | q
        ·exact .inl q
        ·exact .inr (.inl (.inl q))
       ·rw [show max (v.ch k) (u.ch k) = u.ch k by omega]
        rcases hu.top k hk with q | q
        ·exact .inl q
        ·exact .inr (.inl (.inr q))
     ·rw [ek]; exact hheard e
     ·rw [ek]; exact (yea _ _ _).1
     ·show (if X.there = true then yaa (yaa (G.pa a p).made (G.pa b p).made) [(a, CS S a + 1)] else X.made).Nodup
      rw [if_pos z']
      exact ycg (ycg hv.nd.1)
    ·have z' : ¬ X.there = true := by rw [hth, decide_eq_false z]; simp
     have es : yah a (CS S a + 1) v u Y = Y := by unfold yah; rw [if_neg (by simpa using z)]
     have ebn : (ybj a (CS S a + 1) v u Y).bn = Y.bn := by show (yah a (CS S a + 1) v u Y).bn = _; rw [es]
     have ech : (ybj a (CS S a + 1) v u Y).ch = Y.ch := by show (yah a (CS S a + 1) v u Y).ch = _; rw [es]
     have nb : ¬ 0 < (ybj a (CS S a + 1) v u Y).bn := by rw [ebn]; exact z
     have hm0 := hmt z
     refine ⟨?_, ?_, fun y => absurd y nb, fun e he => ?_, fun k hk => ?_, fun _ => ?_, fun e => ?_, fun k hk => ?_, ?_, eknd⟩
     ·rw [decide_eq_false nb]; simpa using z'
     ·rw [if_neg nb]
      show X.text = _
      rw [htx, if_neg z]
     ·change e ∈ (if X.there = true then yaa (yaa (G.pa a p).made (G.pa b p).made) [(a, CS S a + 1)] else X.made) at he
      rw [if_neg z', hm0] at he
      cases he
     ·rw [ech]
      rcases hto k hk with q | q
      ·exact .inl q
      ·rw [hm0] at q; cases q
     ·show (if X.there = true then yaa (yaa (G.pa a p).made (G.pa b p).made) [(a, CS S a + 1)] else X.made) = []
      rw [if_neg z', hm0]
     ·rw [ek]; exact hheard e
     ·rw [ek]; exact (yea _ _ _).1
     ·show (if X.there = true then yaa (yaa (G.pa a p).made (G.pa b p).made) [(a, CS S a + 1)] else X.made).Nodup
      rw [if_neg z', hm0]
      exact List.nodup_nil
   ·rw [ek, e1 k (by omega), if_neg hkr, ybk (hv.lo k (by omega))]
    have l1 := hhi k hk
    have l2 := hhu k hk
    omega
   ·generalize ydw th v u = Y at *
    have zy : 0 < Y.bn := by
     change 0 < (yah a (CS S a + 1) v u Y).bn at z
     unfold yah at z
     split at z
     ·next q => exact of_decide_eq_true q
     ·exact z
    show _ < (yah a (CS S a + 1) v u Y).ch a
    unfold yah
    rw [if_pos (decide_eq_true zy)]
    show _ < g3 v.ch u.ch (tf a (CS S a + 1)) a
    rw [e2 a hr6, if_pos rfl]
    omega
end
end Go.Proofs.YtaelaldmibgibaaGreat
