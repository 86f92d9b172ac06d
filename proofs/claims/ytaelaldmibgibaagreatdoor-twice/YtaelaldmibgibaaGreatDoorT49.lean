/- Where all pull from all and nothing is told, all have the same files (pure). A pull that is done again, of one path (pure). A pull of all that is done again changes nothing, and tells the conflicts again (pure). A net that copies a file: what begun answers (pure). A net that copies a file: begun. Scripts of the statements that do not ask the document's answer: play, over the twin. What holds of all records holds behind every script (pure). What a net's states tell in a text (pure). Twice: Pack over the twin; how many changes are conflicts; a row of changes beside the net. The states of a net that has begun may be. -/
import Derived.Test.YtaelaldmibgibaaGreatDoorT48
import Derived.Test.YtaelaldmibgibaaGreatDoorT33
import Derived.Test.YtaelaldmibgibaaGreatDoorT46
import Derived.Test.YtaelaldmibgibaaGreatDoorT45
import Derived.Deep.RegionLaw
import Derived.Deep.DeepCutAuto

set_option linter.unusedVariables false
set_option linter.unusedSimpArgs false
set_option linter.unusedSectionVars false
set_option maxHeartbeats 4000000
set_option maxRecDepth 100000

namespace Go.Proofs.YtaelaldmibgibaaGreatDoor
open Go.RowKit Go.Sim
open Classical
theorem eqT_iff {a b : Nat → Int} (h : eqT a b = true) : ∀ k < 6, a k = b k := by
 unfold eqT at h
 simp only [Bool.and_eq_true, beq_iff_eq] at h
 obtain ⟨h0, h1, h2, h3, h4, h5⟩ := h
 intro k hk
 match k, hk with
 |0, _ => exact h0
 |1, _ => exact h1
 |2, _ => exact h2
 |3, _ => exact h3
 |4, _ => exact h4
 |5, _ => exact h5
theorem yew (a b : Nat → Int) : yab (yab a b) b = yab a b := by
 funext i
 rw [yhf (yaw a b i).1]
 have := (yaw a b i).2.2
 omega
theorem eqT_of {a b : Nat → Int} (h : ∀ k < 6, a k = b k) : eqT a b = true := by
 unfold eqT
 simp only [Bool.and_eq_true, beq_iff_eq]
 exact ⟨h 0 (by omega), h 1 (by omega), h 2 (by omega), h 3 (by omega), h 4 (by omega), h 5 (by omega)⟩
theorem yjo {a b b' : Nat → Int} (h : leB a b = true) (hb : ∀ k < 6, b k ≤ b' k) : leB a b' = true := by
 refine eqT_of fun k hk => ?_
 have h1 := eqT_iff h k hk
 have h2 := yaw a b k
 have h3 := yaw a b' k
 have h4 := yfm (a := a) (b := b') (i := k) (B := b' k) (by have := hb k hk; omega) (by have := hb k hk; omega) (Int.le_refl _)
 omega
theorem leB_same {a b b' : Nat → Int} (hb : ∀ k < 6, b k = b' k) : leB a b = leB a b' := by
 cases h : leB a b with
 |true => exact (yjo h fun k hk => Int.le_of_eq (hb k hk)).symm
 |false =>
  cases h' : leB a b' with
  |false => rfl
  |true =>
   have := yjo h' fun k hk => Int.le_of_eq (hb k hk).symm
   rw [h] at this
   cases this
theorem yww (t f : Rec) : ycb t f = 0 ∨ ycb t f = 1 ∨ ycb t f = 2 ∨ ycb t f = 3 := by
 unfold ycb inBo inF inT
 (repeat' split) <;> simp
theorem pull_again (t f : Rec) : yam (yam t f).1 f = ((yam t f).1, if (yam t f).2 = 3 then 3 else 0) := by
 by_cases hs : yfh f t = true
 ·have e : yam t f = (t, 0) := by unfold yam; rw [if_pos hs]
  rw [e]
  exact e
 ·by_cases h3 : ycb t f = 3
  ·have e : yam t f = (t, 3) := by unfold yam; rw [if_neg hs, if_pos h3]
   rw [e]
   exact e
  ·by_cases h1 : ycb t f = 1
   ·have e : yam t f = (⟨f.text, f.br, f.bn, f.ch, yab t.kn f.kn⟩, 1) := by unfold yam; rw [if_neg hs, if_neg h3, if_pos h1]
    have hf : 0 < f.bn := by
     rcases ygp t f with ⟨_, _, _, q⟩ | ⟨q, _⟩ | ⟨q, _⟩
     ·exact q
     ·rw [e] at q; simp at q
     ·rw [e] at q; simp at q
    rw [e]
    have s1 : yfh f ⟨f.text, f.br, f.bn, f.ch, yab t.kn f.kn⟩ = false := by unfold yfh; simp [hf]
    have v1 : yqg ⟨f.text, f.br, f.bn, f.ch, yab t.kn f.kn⟩ f = true := by
     unfold yqg
     simp [eqT_of (a := f.ch) (b := f.ch) fun _ _ => rfl]
    have w1 : ycb ⟨f.text, f.br, f.bn, f.ch, yab t.kn f.kn⟩ f = 0 := by
     unfold ycb inBo
     rw [if_pos (by simp [hf]), if_pos v1]
    unfold yam
    rw [s1, w1]
    simp [yew]
   ·by_cases h2 : ycb t f = 2
    ·have e : yam t f = (⟨⟨#[]⟩, 0, 0, fun _ => 0, yab t.kn f.kn⟩, 2) := by unfold yam; rw [if_neg hs, if_neg h3, if_neg h1, if_pos h2]
     have hf : ¬ 0 < f.bn := by
      rcases ygp t f with ⟨q, _⟩ | ⟨_, _, _, q⟩ | ⟨q, _⟩
      ·rw [e] at q; simp at q
      ·exact q
      ·rw [e] at q; simp at q
     rw [e]
     have s1 : yfh f ⟨⟨#[]⟩, 0, 0, fun _ => 0, yab t.kn f.kn⟩ = false := by unfold yfh; simp
     have w1 : ycb ⟨⟨#[]⟩, 0, 0, fun _ => 0, yab t.kn f.kn⟩ f = 0 := by unfold ycb; simp [hf]
     unfold yam
     rw [s1, w1]
     simp [yew]
    ·have e : yam t f = (⟨t.text, t.br, t.bn, t.ch, yab t.kn f.kn⟩, 0) := by unfold yam; rw [if_neg hs, if_neg h3, if_neg h1, if_neg h2]
     have h0 : ycb t f = 0 := by rcases yww t f with q | q | q | q <;> first | exact q | contradiction
     rw [e]
     have up : ∀ k < 6, t.kn k ≤ yab t.kn f.kn k := fun k _ => (yaw _ _ k).2.1
     have s1 : yfh f ⟨t.text, t.br, t.bn, t.ch, yab t.kn f.kn⟩ = false := by
      have : yfh f t = false := by simpa using hs
      exact this
     have w1 : ycb ⟨t.text, t.br, t.bn, t.ch, yab t.kn f.kn⟩ f = 0 := by
      unfold ycb at h0 ⊢
      by_cases hb : (decide (0 < t.bn) && decide (0 < f.bn)) = true
      ·rw [if_pos hb] at h0 ⊢
       unfold inBo at h0 ⊢
       by_cases hv : yqg t f = true
       ·rw [if_pos (show yqg ⟨t.text, t.br, t.bn, t.ch, yab t.kn f.kn⟩ f = true from hv)]
       ·rw [if_neg hv] at h0
        rw [if_neg (show ¬ yqg ⟨t.text, t.br, t.bn, t.ch, yab t.kn f.kn⟩ f = true from hv)]
        cases ha : leB t.ch f.kn with
        |true => rw [ha] at h0; (repeat' split at h0) <;> simp_all
        |false =>
         rw [ha] at h0
         cases hc : leB f.ch t.kn with
         |false => rw [hc] at h0; simp at h0
         |true =>
          have := yjo hc up
          dsimp only
          rw [this]
          simp
      ·rw [if_neg hb] at h0 ⊢
       by_cases hf : decide (0 < f.bn) = true
       ·rw [if_pos hf] at h0 ⊢
        unfold inF at h0 ⊢
        cases hc : leB f.ch t.kn with
        |true =>
         have := yjo hc up
         rw [if_pos (show leB f.ch (yab t.kn f.kn) = true from this)]
        |false => rw [hc] at h0; (repeat' split at h0) <;> simp_all
       ·rw [if_neg hf] at h0 ⊢
        by_cases ht : decide (0 < t.bn) = true
        ·rw [if_pos ht] at h0
         unfold inT at h0
         split at h0 <;> simp at h0
        ·rw [if_neg ht]
     unfold yam
     rw [s1, w1]
     simp [yew]
theorem ytb {n : Nat} (h6 : n ≤ 6) {C : Nat → Int} {t f : Rec} (ht : Vr n C t) (hf : Vr n C f) {cm : Nat → Int} (hb : ¬ 0 < (yam t f).1.bn) (hk : eqT (yam t f).1.kn cm = true) (hc0 : ∀ i, 0 ≤ cm i) :
  kept cm (yam ⟨⟨#[]⟩, 0, 0, fun _ => 0, cm⟩ f).1 = none ∧ (yam ⟨⟨#[]⟩, 0, 0, fun _ => 0, cm⟩ f).2 = if (yam t f).2 = 3 then 3 else 0 := by
 have s1 : yfh f ⟨⟨#[]⟩, 0, 0, fun _ => 0, cm⟩ = false := by unfold yfh; simp
 have nk : ∀ k : Nat → Int, (∀ i < 6, k i = cm i) → kept cm ⟨⟨#[]⟩, 0, 0, fun _ => 0, k⟩ = none := fun k h => by
  unfold kept
  rw [if_neg]
  simp [eqT_of h]
 have kk := eqT_iff hk
 by_cases hs : yfh f t = true
 ·exfalso
  have e : yam t f = (t, 0) := by unfold yam; rw [if_pos hs]
  rw [e] at hb
  unfold yfh at hs
  simp at hs
  exact hb hs.1.1
 ·by_cases h3 : ycb t f = 3
  ·have e : yam t f = (t, 3) := by unfold yam; rw [if_neg hs, if_pos h3]
   rw [e] at hb kk ⊢
   have w1 : ycb ⟨⟨#[]⟩, 0, 0, fun _ => 0, cm⟩ f = 3 := by
    unfold ycb at h3 ⊢
    rw [if_neg (by simp; intro q; exact absurd q hb)] at h3
    rw [if_neg (by simp)]
    by_cases hf0 : decide (0 < f.bn) = true
    ·rw [if_pos hf0] at h3 ⊢
     unfold inF at h3 ⊢
     have e1 : leB f.ch t.kn = leB f.ch cm := leB_same kk
     have e2 : hasB f t.kn = hasB f cm := by
      obtain ⟨b, b1, b2, _⟩ := hf.br
      unfold hasB
      rw [b2, Int.toNat_natCast, kk b (by omega)]
     rw [e1, e2] at h3
     exact h3
    ·rw [if_neg hf0] at h3
     rw [if_neg (by simpa using hb)] at h3
     simp at h3
   unfold yam
   rw [s1, if_neg (by simp), if_pos w1]
   exact ⟨nk cm fun _ _ => rfl, by simp⟩
  ·have lk : ∀ i < 6, f.kn i ≤ cm i ∧ t.kn i ≤ cm i := by
    intro i hi
    have := kk i hi
    by_cases h1 : ycb t f = 1
    ·have e : yam t f = (⟨f.text, f.br, f.bn, f.ch, yab t.kn f.kn⟩, 1) := by unfold yam; rw [if_neg hs, if_neg h3, if_pos h1]
     rw [e] at this
     have := yaw t.kn f.kn i
     simp only at *
     omega
    ·by_cases h2 : ycb t f = 2
     ·have e : yam t f = (⟨⟨#[]⟩, 0, 0, fun _ => 0, yab t.kn f.kn⟩, 2) := by unfold yam; rw [if_neg hs, if_neg h3, if_neg h1, if_pos h2]
      rw [e] at this
      have := yaw t.kn f.kn i
      simp only at *
      omega
     ·have e : yam t f = (⟨t.text, t.br, t.bn, t.ch, yab t.kn f.kn⟩, 0) := by unfold yam; rw [if_neg hs, if_neg h3, if_neg h1, if_neg h2]
      rw [e] at this
      have := yaw t.kn f.kn i
      simp only at *
      omega
   have n3 : ¬ (yam t f).2 = 3 := by
    unfold yam
    rw [if_neg hs, if_neg h3]
    (repeat' split) <;> simp
   have w1 : ycb ⟨⟨#[]⟩, 0, 0, fun _ => 0, cm⟩ f = 0 := by
    unfold ycb
    rw [if_neg (by simp)]
    by_cases hf0 : decide (0 < f.bn) = true
    ·rw [if_pos hf0]
     have hfb : 0 < f.bn := of_decide_eq_true hf0
     have htb : ¬ 0 < t.bn := by
      intro q
      rcases ygp t f with ⟨q1, _, q2, _⟩ | ⟨_, _, _, q2⟩ | ⟨_, _, q2⟩
      ·omega
      ·exact q2 hfb
      ·omega
     have hc : leB f.ch t.kn = true := by
      cases hc : leB f.ch t.kn with
      |true => rfl
      |false =>
       exfalso
       have hw : ycb t f = if hasB f t.kn = true then 3 else 1 := by
        unfold ycb
        rw [if_neg (by simp; intro q; exact absurd q htb), if_pos hf0]
        unfold inF
        rw [hc]
        simp
       split at hw
       ·exact h3 hw
       ·have e : yam t f = (⟨f.text, f.br, f.bn, f.ch, yab t.kn f.kn⟩, 1) := by unfold yam; rw [if_neg hs, if_neg h3, if_pos hw]
        rw [e] at hb
        exact hb hfb
     unfold inF
     rw [if_pos (show leB f.ch cm = true from yjo hc fun i hi => (lk i hi).2)]
    ·rw [if_neg hf0, if_neg (by simp)]
   unfold yam at n3 ⊢
   rw [s1, w1]
   refine ⟨?_, ?_⟩
   ·simp only [Bool.false_eq_true, if_false]
    refine nk _ fun i hi => ?_
    have := lk i hi
    have := hc0 i
    have h1 := yfm (a := cm) (b := f.kn) (i := i) (B := cm i) (by omega) (Int.le_refl _) (by omega)
    have h2 := yaw cm f.kn i
    omega
   ·rw [if_neg n3]
    simp
theorem yhm {α : Type} {r : α → α → Prop} (irr : ∀ x, ¬ r x x) (asym : ∀ x y, r x y → ¬ r y x) : ∀ {a b : List α}, a.Pairwise r → b.Pairwise r → (∀ x, x ∈ a ↔ x ∈ b) → a = b
 |[], [], _, _, _ => rfl
 |[], y :: b, _, _, h => by have := (h y).2 (List.mem_cons_self ..); simp at this
 |x :: a, [], _, _, h => by have := (h x).1 (List.mem_cons_self ..); simp at this
 |x :: a, y :: b, ha, hb, h => by
  obtain ⟨ha1, ha2⟩ := List.pairwise_cons.1 ha
  obtain ⟨hb1, hb2⟩ := List.pairwise_cons.1 hb
  have e : x = y := by
   rcases List.mem_cons.1 ((h x).1 (List.mem_cons_self ..)) with q | q
   ·exact q
   ·rcases List.mem_cons.1 ((h y).2 (List.mem_cons_self ..)) with q' | q'
    ·exact q'.symm
    ·exact absurd (ha1 y q') (asym _ _ (hb1 x q))
  subst e
  rw [yhm irr asym ha2 hb2 fun z => ?_]
  constructor
  ·intro hz
   rcases List.mem_cons.1 ((h z).1 (List.mem_cons_of_mem _ hz)) with q | q
   ·subst q; exact absurd (ha1 z hz) (irr z)
   ·exact q
  ·intro hz
   rcases List.mem_cons.1 ((h z).2 (List.mem_cons_of_mem _ hz)) with q | q
   ·subst q; exact absurd (hb1 z hz) (irr z)
   ·exact q
theorem yvz {a b : yat} (ha : yau a) (hb : yau b) (h : ∀ p, yas p a = yas p b) : a = b :=
 yhm (r := fun x y : ByteArray × Rec => slt x.1 y.1 = true) (fun x q => by rw [ybi] at q; cases q) (fun x y q q' => by rw [yhp q] at q'; cases q') ha hb fun z => by
  rw [← yjk ha z.1 z.2, ← yjk hb z.1 z.2, h]
theorem ywa {a b : List ByteArray} (ha : yby a) (hb : yby b) (h : ∀ x, x ∈ a ↔ x ∈ b) : a = b :=
 yhm (r := fun x y : ByteArray => slt x y = true) (fun x q => by rw [ybi] at q; cases q) (fun x y q q' => by rw [yhp q] at q'; cases q') ha hb h
theorem flat_sub {β : Type} (c : ByteArray → List β) {U V : List ByteArray} (hU : yby U) (hV : yby V) (hs : ∀ x ∈ V, x ∈ U) (hc : ∀ x ∈ U, x ∉ V → c x = []) : (V.map c).flatten = (U.map c).flatten := by
 have e : V = U.filter (fun x => decide (x ∈ V)) := by
  refine ywa hV (List.Pairwise.filter _ hU) fun x => ?_
  rw [List.mem_filter]
  constructor
  ·intro h; exact ⟨hs x h, by simpa using h⟩
  ·rintro ⟨_, h⟩; simpa using h
 have drop : ∀ l : List ByteArray, (∀ x ∈ l, x ∉ V → c x = []) → ((l.filter (fun x => decide (x ∈ V))).map c).flatten = (l.map c).flatten := by
  intro l
  induction l with
  |nil => intro _; rfl
  |cons x l ih =>
   intro h
   have hl := ih fun z hz => h z (List.mem_cons_of_mem _ hz)
   by_cases hx : x ∈ V
   ·rw [List.filter_cons_of_pos (by simpa using hx), List.map_cons, List.flatten_cons, List.map_cons, List.flatten_cons, hl]
   ·rw [List.filter_cons_of_neg (by simpa using hx), List.map_cons, List.flatten_cons, h x (List.mem_cons_self ..) hx, List.nil_append, hl]
 have := drop U hc
 rw [← e] at this
 exact this
theorem yln {E : yat} {p : ByteArray} : (yas p E = none → p ∉ E.map (·.1)) ∧ (p ∉ E.map (·.1) → yas p E = none) := by
 constructor
 ·intro h hm
  obtain ⟨z, hz, rfl⟩ := List.mem_map.1 hm
  have := yjl hz
  rw [h] at this
  cases this
 ·intro h
  cases hg : yas p E with
  |none => rfl
  |some R => exact absurd (List.mem_map.2 ⟨_, yhx hg, rfl⟩) h
theorem pl_twice {S : List RS} (h6 : S.length ≤ 6) (h : VS S) {B : Int} (h0 : 0 ≤ B) (hW : Wf B S) {r f : Nat} (hr : r < S.length) (hf : f < S.length) :
  plR r (plR r (S.getD r rs0) f (S.getD f rs0)).2.1 f (S.getD f rs0) = (0, (plR r (S.getD r rs0) f (S.getD f rs0)).2.1, (plR r (S.getD r rs0) f (S.getD f rs0)).2.2.filter (fun z => decide (z.2 = 3))) := by
 have wx := hW.at (ybk hr)
 have wy := hW.at (ybk hf)
 have hs := h r hr
 have ht := h f hf
 generalize S.getD r rs0 = x at *
 generalize S.getD f rs0 = y at *
 obtain ⟨p1, p2, p3, p4⟩ := ysz (r := r) (f := f) wx wy h0
 have hg := yqd wx wy h0 r f
 have hcm : (plR r x f y).2.1.cm = yab x.cm y.cm := by rw [p4]
 obtain ⟨q1, q2, q3, q4⟩ := ysz (r := r) (f := f) p2 wy h0
 have hg2 := yqd p2 wy h0 r f
 rw [hcm, yew] at hg2
 have cr : yab x.cm y.cm r = CS S r := by
  have h1 := yfm (a := x.cm) (b := y.cm) (i := r) (B := CS S r) (Int.le_trans (hs.cm0 r) (hs.cmC r)) (hs.cmC r) (ht.cmC r)
  have h2 := (yaw x.cm y.cm r).2.1
  have h3 := hs.own
  omega
 have hown : ∀ p, (yam (yay r x.cm (yas p x.E)) (yay f y.cm (yas p y.E))).1.kn r = yab x.cm y.cm r := fun p => (ylv (hs.vw p) (ht.vw p) ((ygr r x.cm _).trans hs.own)).trans cr.symm
 obtain ⟨u1, u2⟩ := ydu (y.E.map (·.1)) _ (yiz wx.ris)
 obtain ⟨v1, v2⟩ := ydu (y.E.map (·.1)) _ (yiz p2.ris)
 -- path by path
 have key : ∀ p, p ∈ ybq (x.E.map (·.1)) (y.E.map (·.1)) → kept (yab x.cm y.cm) (yam (yay r (yab x.cm y.cm) (yas p (plR r x f y).2.1.E)) (yay f y.cm (yas p y.E))).1 = yas p (plR r x f y).2.1.E ∧
   (yam (yay r (yab x.cm y.cm) (yas p (plR r x f y).2.1.E)) (yay f y.cm (yas p y.E))).2 = if (yam (yay r x.cm (yas p x.E)) (yay f y.cm (yas p y.E))).2 = 3 then 3 else 0 := by
  intro p hp
  have e := hg p
  rw [if_pos hp] at e
  have ho := hown p
  have hv := hs.vw p
  have hw := ht.vw p
  generalize yay r x.cm (yas p x.E) = t at *
  generalize yay f y.cm (yas p y.E) = g at *
  rcases ymn (yab x.cm y.cm) (yam t g).1 with k | ⟨k, kb⟩
  ·rw [e, k]
   have : yay r (yab x.cm y.cm) (some (yam t g).1) = (yam t g).1 := by
    show (⟨_, _, _, _, upT (yam t g).1.kn r (yab x.cm y.cm r)⟩ : Rec) = _
    rw [yka ho]
   rw [this, pull_again]
   exact ⟨k, rfl⟩
  ·rw [e, k]
   have kq : eqT (yam t g).1.kn (yab x.cm y.cm) = true := by
    unfold kept at k
    split at k
    ·cases k
    ·next q =>
     simp only [Bool.or_eq_true, not_or] at q
     simpa using q.2
   exact ytb h6 hv hw kb kq (fun i => (yaw _ _ i).1)
 have sub : ∀ p, p ∈ ybq ((plR r x f y).2.1.E.map (·.1)) (y.E.map (·.1)) → p ∈ ybq (x.E.map (·.1)) (y.E.map (·.1)) := by
  intro p hp
  rcases (v2 p).1 hp with q | q
  ·cases hd : decide (p ∈ ybq (x.E.map (·.1)) (y.E.map (·.1))) with
   |true => simpa using hd
   |false =>
    exfalso
    have hn : p ∉ ybq (x.E.map (·.1)) (y.E.map (·.1)) := by simpa using hd
    have e := hg p
    rw [if_neg hn] at e
    exact yln.1 e q
  ·exact (u2 p).2 (.inr q)
 have hE : (plR r (plR r x f y).2.1 f y).2.1.E = (plR r x f y).2.1.E := by
  refine yvz q2.ris p2.ris fun p => ?_
  rw [hg2 p]
  split
  ·next hp => exact (key p (sub p hp)).1
  ·next hp =>
   refine (yln.2 fun q => hp ((v2 p).2 (.inl q))).symm
 have hC : (plR r (plR r x f y).2.1 f y).2.1.cm = (plR r x f y).2.1.cm := by rw [q4, hcm, yew]
 have hS : (plR r (plR r x f y).2.1 f y).2.1 = (plR r x f y).2.1 := by
  generalize (plR r (plR r x f y).2.1 f y).2.1 = a at hE hC
  generalize (plR r x f y).2.1 = b at hE hC
  cases a; cases b
  simp only at hE hC
  subst hE hC
  rfl
 have hT : (plR r (plR r x f y).2.1 f y).2.2 = (plR r x f y).2.2.filter (fun z => decide (z.2 = 3)) := by
  rw [q3, p3]
  show ((ybq ((plR r x f y).2.1.E.map (·.1)) (y.E.map (·.1))).foldl (ygd r (plR r x f y).2.1.cm (plR r x f y).2.1.E f y.cm y.E) ([], [])).2 = List.filter _ ((ybq (x.E.map (·.1)) (y.E.map (·.1))).foldl (ygd r x.cm x.E f y.cm y.E) ([], [])).2
  rw [yua, yua, List.nil_append, List.nil_append, List.filter_flatten, List.map_map]
  have c2 : ∀ p ∈ ybq ((plR r x f y).2.1.E.map (·.1)) (y.E.map (·.1)), toldP r (plR r x f y).2.1.cm (plR r x f y).2.1.E f y.cm y.E p = ((List.filter fun z : ByteArray × Int => decide (z.2 = 3)) ∘ toldP r x.cm x.E f y.cm y.E) p := by
   intro p hp
   have k := (key p (sub p hp)).2
   unfold toldP
   rw [hcm]
   simp only [Function.comp]
   rw [k]
   by_cases w3 : (yam (yay r x.cm (yas p x.E)) (yay f y.cm (yas p y.E))).2 = 3
   ·rw [if_pos w3, w3]; simp
   ·rw [if_neg w3]
    simp only [if_true]
    split
    ·rfl
    ·simp [w3]
  rw [List.map_congr_left c2]
  refine flat_sub _ u1 v1 sub fun p hp hn => ?_
  simp only [Function.comp]
  have hy : yas p y.E = none := yln.2 fun q => hn ((v2 p).2 (.inr q))
  have hx1 : yas p (plR r x f y).2.1.E = none := yln.2 fun q => hn ((v2 p).2 (.inl q))
  have w3 : ¬ (yam (yay r x.cm (yas p x.E)) (yay f y.cm (yas p y.E))).2 = 3 := by
   intro w3
   have k := (key p hp).2
   rw [if_pos w3, hx1, hy] at k
   rw [pullR_none (by simp [yay]) (by simp [yay])] at k
   cases k
  unfold toldP
  split
  ·rfl
  ·simp [w3]
 have : plR r (plR r x f y).2.1 f y = ((plR r (plR r x f y).2.1 f y).1, (plR r (plR r x f y).2.1 f y).2.1, (plR r (plR r x f y).2.1 f y).2.2) := rfl
 rw [this, q1, hS, hT]
def ysv : ByteArray := ⟨#[116, 101, 120, 116]⟩
def ynv : RS := ⟨fun _ => 0, []⟩
def beg0 : RS := (wrR 0 ynv yga ysv).2
def beg1 : RS := (plR 1 ynv 0 beg0).2.1
theorem beg_a : (wrR 0 ynv yga ysv).1 = 0 := by decide
theorem beg_b : (plR 1 ynv 0 beg0).1 = 0 := by kernel_rfl
theorem beg_c : (plR 1 ynv 0 beg0).2.2 = [(yga, 1)] := by kernel_rfl
theorem beg_d : rdR 1 beg1 yga = (ysv, 0) := by kernel_rfl
def begS (n : Nat) : List RS := ((ykz n).set 0 beg0).set 1 beg1
theorem ylq : yga ∈ ycd := List.mem_cons_self ..
def neCh (x y : Value) : Sem Value := binOp .neq 44 x y
theorem neChange (x y : Value) : binOp .neq 44 x y = neCh x y := rfl
theorem run_neCh (w : World) : (neCh (.agg #[.int .i64 1, .string ⟨#[102, 105, 114, 115, 116]⟩, .int .i64 1]) (.agg #[.int .i64 1, .string ⟨#[102, 105, 114, 115, 116]⟩, .int .i64 1])).run (twin Tryz.prog pl) w = .ok (.bool false) w := by kernel_rfl
@[simp] theorem q_call8 (args : Array Value) (w : World) : (callFunc 25 args).run (twin Tryz.prog pl) w = .ok (.enter 25 args) w := yez (by decide) args w
@[simp] theorem q_call10 (args : Array Value) (w : World) : (callFunc 29 args).run (twin Tryz.prog pl) w = .ok (.enter 29 args) w := yez (by decide) args w
@[simp] theorem q_call19 (args : Array Value) (w : World) : (callFunc 31 args).run (twin Tryz.prog pl) w = .ok (.enter 31 args) w := yez (by decide) args w
@[simp] theorem q_call20 (args : Array Value) (w : World) : (callFunc 32 args).run (twin Tryz.prog pl) w = .ok (.enter 32 args) w := yez (by decide) args w
@[simp] theorem q_call21 (args : Array Value) (w : World) : (callFunc 33 args).run (twin Tryz.prog pl) w = .ok (.enter 33 args) w := yez (by decide) args w
@[simp] theorem q_call23 (args : Array Value) (w : World) : (callFunc 16 args).run (twin Tryz.prog pl) w = .ok (.enter 16 args) w := yez (by decide) args w
@[simp] theorem q_call24 (args : Array Value) (w : World) : (callFunc 19 args).run (twin Tryz.prog pl) w = .ok (.enter 19 args) w := yez (by decide) args w
@[simp] theorem q_call25 (args : Array Value) (w : World) : (callFunc 30 args).run (twin Tryz.prog pl) w = .ok (.enter 30 args) w := yez (by decide) args w
@[simp] theorem q_call26 (args : Array Value) (w : World) : (callFunc 34 args).run (twin Tryz.prog pl) w = .ok (.enter 34 args) w := yez (by decide) args w
@[simp] theorem q_call27 (args : Array Value) (w : World) : (callFunc 35 args).run (twin Tryz.prog pl) w = .ok (.enter 35 args) w := yez (by decide) args w
attribute [local go_sem ↓] neChange
attribute [local go_sem] run_neCh
theorem begun_any (n : Nat) (h2 : 2 ≤ n) (h6 : n ≤ 6) (w : World) (hx : ybx w) :
  Calls (twin Tryz.prog pl) 14 #[.int .i64 n] w fun e w' => e = .returned (.pointer (some ⟨w.heap.size, 0, none⟩)) ∧ Ne w w' w.heap.size (begS n) [] := by
 have e0 : (ykz n)[0]? = some ynv := by unfold ykz; rw [List.getElem?_replicate, if_pos (by omega)]; rfl
 have e1 : ((ykz n).set 0 beg0)[1]? = some ynv := by rw [List.getElem?_set_ne (by omega)]; unfold ykz; rw [List.getElem?_replicate, if_pos (by omega)]; rfl
 have hnl : (ykz n).length = n := by simp [ykz]
 have e2 : ((ykz n).set 0 beg0)[0]? = some beg0 := by rw [List.getElem?_set_self (by omega)]
 have e3 : (begS n)[1]? = some beg1 := by unfold begS; rw [List.getElem?_set_self (by simp; omega)]
 have C1 := yac (eNew n w (by omega) h6 hx)
 have C2 : Hid (∀ V, Ne w V w.heap.size (ykz n) [] → Calls (twin Tryz.prog pl) 29 #[.pointer (some ⟨w.heap.size, 0, none⟩), .int .i64 0, .string yga, .string ysv] V fun e w' => e = .returned (.int .i64 0) ∧ Ne w w' w.heap.size ((ykz n).set 0 beg0) []) := fun V hV => by
  refine (eWrite hV 0 e0 yga ysv ylq (by decide)).mono ?_
  rintro e w' ⟨rfl, hN, _⟩
  exact ⟨by rw [beg_a], hN⟩
 have C3 : Hid (∀ V, Ne w V w.heap.size ((ykz n).set 0 beg0) [] → Calls (twin Tryz.prog pl) 17 #[.pointer (some ⟨w.heap.size, 0, none⟩), .int .i64 1, .int .i64 0] V fun e w' => ∃ g cap, e = .returned (.tuple #[.slice (some ⟨g, 0, none⟩) 1 cap, .int .i64 0]) ∧ Ne w w' w.heap.size (begS n) [] ∧ w'.ownsRow 0 44 3 (.slice (some ⟨g, 0, none⟩) 1 cap) 1 [.int .i64 1, .string yga, .int .i64 1]) := fun V hV => by
  refine (ePull hV 1 0 (by omega) e1 e2).mono ?_
  rintro e w' ⟨rv, rfl, hN, _, hr⟩
  rw [beg_b]
  rw [beg_c] at hr
  obtain ⟨g, cap, rfl, _⟩ := World.ownsRow.form hr (by simp)
  exact ⟨g, cap, rfl, hN, yck hr (fun _ _ => Nat.zero_le _)⟩
 have C4 : Hid (∀ V, Ne w V w.heap.size (begS n) [] → Calls (twin Tryz.prog pl) 30 #[.pointer (some ⟨w.heap.size, 0, none⟩), .int .i64 1, .string yga] V fun e w' => e = .returned (.tuple #[.string ysv, .int .i64 0]) ∧ Ne w w' w.heap.size (begS n) [] ∧ Below V.heap.size V w') := fun V hV => by
  refine (eRead hV 1 e3 yga ylq).mono ?_
  rintro e w' ⟨rfl, hN, hb⟩
  rw [beg_d]
  exact ⟨rfl, hN, hb⟩
 unfold yga at C2 C3 C4
 unfold ysv at C2 C4
 clear e0 e1 e2 e3 hx
 have eg : ∀ V, (eqGuard .neq 44 (.tmp 55) (.tmp 56) (.agg #[.int .i64 1, .string ⟨#[102, 105, 114, 115, 116]⟩, .int .i64 1]) (.agg #[.int .i64 1, .string ⟨#[102, 105, 114, 115, 116]⟩, .int .i64 1])).run (twin Tryz.prog pl) V = .ok () V := fun V => by kernel_rfl
 go_enter q_func15, Tryz.ntmps14
 go_wp2_with (first
  |(go_at_call 25; refine C1.out.mono ?_; rintro e w1 ⟨rfl, hN1⟩; have N1 := yac hN1; clear hN1)
  |(go_at_call 29; refine (C2.out _ N1.out).mono ?_; rintro e w2 ⟨rfl, hN2⟩; have N2 := yac hN2; clear hN2)
  |(go_at_call 17; refine (C3.out _ N2.out).mono ?_; rintro e w3 ⟨g, cap, rfl, hN3, ho3⟩; have N3 := yac hN3; have O3 := yac ho3; clear hN3 ho3)
  |(go_at_call 30; refine (C4.out _ N3.out).mono ?_; rintro e w4 ⟨rfl, hN4, hb4⟩; have N4 := yac hN4; have O4 := yan O3.out (fun k e => hb4.block k (World.ownsRow.lt O3.out k e).2); have k0 : w4.cell? ⟨g, 0, none⟩ = some (.int .i64 1) := (World.ownsRow.cellAt O4 0 (by decide)); have k1 : w4.cell? ⟨g, 1, none⟩ = some (.string ⟨#[102, 105, 114, 115, 116]⟩) := (World.ownsRow.cellAt O4 1 (by decide)); have k2 : w4.cell? ⟨g, 2, none⟩ = some (.int .i64 1) := (World.ownsRow.cellAt O4 2 (by decide)); clear hN4 hb4 O4))
 go_ret
 exact ⟨rfl, N4.out⟩
end Go.Proofs.YtaelaldmibgibaaGreatDoor

namespace Go.Proofs.YtaelaldmibgibaaGreatDoor
open Go.RowKit Go.Sim
theorem q_func16 : (twin Tryz.prog pl).funcs[15]? = some Tryz.f15 := yfu Tryz.func15 (by decide) (by kernel_rfl)
@[simp] theorem q_call16 (args : Array Value) (w : World) : (callFunc 15 args).run (twin Tryz.prog pl) w = .ok (.enter 15 args) w := yno q_func16 (by kernel_rfl) (by kernel_rfl) args w
theorem yoq (ad : Addr) (k : Nat) : (ad.add k).block = ad.block := by unfold Addr.add; split <;> rfl
theorem add_next (ad : Addr) (k j : Nat) (hj : j ≠ 0) : ad.add (k + j) = ⟨(ad.add k).block, (ad.add k).off + j, none⟩ := by
 by_cases hk : k = 0
 ·subst hk
  simp [Addr.add, hj]
 ·simp [Addr.add, hk, hj]
  omega
def inI (c : Int) : Prop := -9223372036854775808 ≤ c ∧ c < 9223372036854775808
structure ygw (w : World) (ad : Addr) (i : Nat) (o : ych) : Prop where
 lt : ad.block < w.heap.size
 c0 : w.cell? (ad.add (i * 5)) = some (.int .i64 o.what)
 c1 : w.cell? (ad.add (i * 5 + 1)) = some (.int .i64 o.r)
 c2 : w.cell? (ad.add (i * 5 + 2)) = some (.int .i64 o.f)
 c3 : w.cell? (ad.add (i * 5 + 3)) = some (.int .i64 o.path)
 c4 : w.cell? (ad.add (i * 5 + 4)) = some (.string o.text)
 r0 : inI o.what
 r1 : inI o.r
 r2 : inI o.f
 r3 : inI o.path
theorem ygw.below {w w' : World} {ad : Addr} {i : Nat} {o : ych} (h : ygw w ad i o) (hb : Below w.heap.size w w') : ygw w' ad i o := by
 have k : ∀ j, w'.cell? (ad.add j) = w.cell? (ad.add j) := fun j => hb.cell (by rw [yoq]; exact h.lt)
 exact ⟨Nat.lt_of_lt_of_le h.lt hb.size, (k _).trans h.c0, (k _).trans h.c1, (k _).trans h.c2, (k _).trans h.c3, (k _).trans h.c4, h.r0, h.r1, h.r2, h.r3⟩
def runS (n : Nat) (S : List RS) (os : Nat → ych) (k : Nat) : List RS := (List.range k).foldl (fun S i => ydm n S (os i)) S
theorem yjx (n : Nat) (S : List RS) (os : Nat → ych) (k : Nat) : runS n S os (k + 1) = ydm n (runS n S os k) (os k) := by
 unfold runS
 rw [List.range_succ, List.foldl_append]
 rfl
theorem ylz (n : Nat) (S : List RS) (os : Nat → ych) (k : Nat) : (runS n S os k).length = S.length := by
 induction k with
 |zero => rfl
 |succ k ih => rw [yjx, doStep_len, ih]
theorem ywg {n : Nat} {S : List RS} (hn : 2 ≤ n) (h6 : n ≤ 6) (hS : S.length = n) {B : Int} (h0 : 0 ≤ B) (h : Wf B S) (os : Nat → ych) (k : Nat) (hk : B + k ≤ 1000000000) : Wf (B + k) (runS n S os k) := by
 induction k with
 |zero => exact h.mono (by omega)
 |succ k ih =>
  rw [yjx]
  have := doStep_wf hn h6 (by rw [ylz]; exact hS) (B := B + k) (by omega) (by omega) (ih (by omega)) (os k)
  exact this.mono (by omega)
theorem ycq.trans {K : List Nat} {a b c : World} (h : ycq K a b) (h' : ycq K b c) : ycq K a c := fun k hk => (h' k hk).trans (h k hk)
theorem ycq.refl (K : List Nat) (w : World) : ycq K w w := fun _ _ => rfl
theorem Ne.alloc {w0 w : World} {nb : Nat} {S : List RS} {K : List Nat} (h : Ne w0 w nb S K) (cs : Array Value) (t : TypeId) : Ne w0 (w.alloc (.cells cs t)) nb S K ∧ ycq K w (w.alloc (.cells cs t)) :=
 h.more ((Below.refl _ _).alloc (Nat.le_refl _) _) (ybx.alloc h.fix _ _)
section
variable {w0 : World} {nb : Nat} {S : List RS} {K : List Nat} {n : Nat} {o : ych}
theorem st_write (hn : 2 ≤ n) (h6 : n ≤ 6) (hS : S.length = n) {B : Int} (h0 : 0 ≤ B) (hB : B < 1000000000) (hW : Wf B S) (hk : o.W ≤ 2) (V : World) (h : Ne w0 V nb S K) :
  Calls (twin Tryz.prog pl) 29 #[.pointer (some ⟨nb, 0, none⟩), .int .i64 (o.R n), .string o.P, .string (cutT o.text)] V fun e w' => e = .returned (.int .i64 0) ∧ Ne w0 w' nb (ydm n S o) K ∧ ycq K V w' := by
 have hr := o.R_lt hn
 have hx := ybk (S := S) (r := o.R n) (by omega)
 refine (eWrite h (o.R n) hx o.P (cutT o.text) o.P_in (yrz _)).mono ?_
 rintro e w' ⟨rfl, h1, h2⟩
 rw [(wr_wf (hW.at hx) (by omega) h0 hB o.P_in _).1]
 unfold ydm
 rw [if_pos hk]
 exact ⟨rfl, h1, h2⟩
theorem st_remove (hn : 2 ≤ n) (h6 : n ≤ 6) (hS : S.length = n) {B : Int} (h0 : 0 ≤ B) (hB : B < 1000000000) (hW : Wf B S) (hk : o.W = 3) (V : World) (h : Ne w0 V nb S K) :
  Calls (twin Tryz.prog pl) 33 #[.pointer (some ⟨nb, 0, none⟩), .int .i64 (o.R n), .string o.P] V fun e w' => ∃ z : Int, (z = 0 ∨ z = 4) ∧ e = .returned (.int .i64 z) ∧ Ne w0 w' nb (ydm n S o) K ∧ ycq K V w' := by
 have hr := o.R_lt hn
 have hx := ybk (S := S) (r := o.R n) (by omega)
 refine (eRemove h (o.R n) hx o.P o.P_in).mono ?_
 rintro e w' ⟨rfl, h1, h2⟩
 refine ⟨_, (rm_wf (hW.at hx) (by omega) h0 hB o.P_in).1, rfl, ?_, h2⟩
 unfold ydm
 rw [if_neg (by omega), if_pos hk]
 exact h1
theorem st_path (hn : 2 ≤ n) (h6 : n ≤ 6) (hS : S.length = n) {B : Int} (hW : Wf B S) (hk : o.W = 4) (V : World) (h : Ne w0 V nb S K) :
  Calls (twin Tryz.prog pl) 34 #[.pointer (some ⟨nb, 0, none⟩), .int .i64 (o.R n), .int .i64 (o.F n), .string o.P] V fun e w' => ∃ z : Int, e = .returned (.tuple #[.int .i64 z, .int .i64 0]) ∧ Ne w0 w' nb (ydm n S o) K ∧ ycq K V w' := by
 have hr := o.R_lt hn
 have hf := o.F_ok hn
 have hx := ybk (S := S) (r := o.R n) (by omega)
 have hy := ybk (S := S) (r := o.F n) (by omega)
 refine (ePullPath h (o.R n) (o.F n) (by omega) hx hy o.P o.P_in).mono ?_
 rintro e w' ⟨rfl, h1, h2⟩
 rw [(pp_wf (hW.at hx) o.P_in).1]
 refine ⟨_, rfl, ?_, h2⟩
 unfold ydm
 rw [if_neg (by omega), if_neg (by omega), if_pos hk]
 exact h1
theorem st_pull (hn : 2 ≤ n) (h6 : n ≤ 6) (hS : S.length = n) {B : Int} (h0 : 0 ≤ B) (hW : Wf B S) (hk : o.W = 5 ∨ o.W = 6) (V : World) (h : Ne w0 V nb S K) :
  Calls (twin Tryz.prog pl) 17 #[.pointer (some ⟨nb, 0, none⟩), .int .i64 (o.R n), .int .i64 (o.F n)] V fun e w' => ∃ rv, e = .returned (.tuple #[rv, .int .i64 0]) ∧ Ne w0 w' nb (ydm n S o) K ∧ ycq K V w' := by
 have hr := o.R_lt hn
 have hf := o.F_ok hn
 have hx := ybk (S := S) (r := o.R n) (by omega)
 have hy := ybk (S := S) (r := o.F n) (by omega)
 refine (ePull h (o.R n) (o.F n) (by omega) hx hy).mono ?_
 rintro e w' ⟨rv, rfl, h1, h2, _⟩
 rw [(ysz (hW.at hx) (hW.at hy) h0).1]
 refine ⟨_, rfl, ?_, h2⟩
 unfold ydm
 rw [if_neg (by omega), if_neg (by omega), if_neg (by omega), if_pos (by omega)]
 exact h1
theorem st_resolve (hn : 2 ≤ n) (h6 : n ≤ 6) (hS : S.length = n) {B : Int} (h0 : 0 ≤ B) (hB : B < 1000000000) (hW : Wf B S) (hk : o.W = 7) (V : World) (h : Ne w0 V nb S K) :
  Calls (twin Tryz.prog pl) 35 #[.pointer (some ⟨nb, 0, none⟩), .int .i64 (o.R n), .int .i64 (o.F n), .string o.P, .bool o.T] V fun e w' => ∃ z : Int, (z = 0 ∨ z = 4) ∧ e = .returned (.int .i64 z) ∧ Ne w0 w' nb (ydm n S o) K ∧ ycq K V w' := by
 have hr := o.R_lt hn
 have hf := o.F_ok hn
 have hx := ybk (S := S) (r := o.R n) (by omega)
 have hy := ybk (S := S) (r := o.F n) (by omega)
 refine (eResolve h (o.R n) (o.F n) (by omega) hx hy o.P o.P_in o.T).mono ?_
 rintro e w' ⟨rfl, h1, h2⟩
 refine ⟨_, (rs_wf (hW.at hx) (by omega) h0 hB o.P_in o.T).1, rfl, ?_, h2⟩
 unfold ydm
 rw [if_neg (by omega), if_neg (by omega), if_neg (by omega), if_neg (by omega)]
 exact h1
end
theorem play_any {w0 w : World} {nb n : Nat} {S : List RS} {K : List Nat} (h : Ne w0 w nb S K) (hn : 2 ≤ n) (h6 : n ≤ 6) (hS : S.length = n) {B : Int} (h0 : 0 ≤ B) (hB : B ≤ 100000) (hW : Wf B S) (a : Option Addr) (len cap : Nat) (hlen : len ≤ 4611686018427387904) (os : Nat → ych) (hs : ∀ i, i < len → ∃ ad, a = some ad ∧ ygw w0 ad i (os i)) :
  Calls (twin Tryz.prog pl) 15 #[.pointer (some ⟨nb, 0, none⟩), .int .i64 n, .slice a len cap] w fun e w' => e = .returned (.bool true) ∧ Ne w0 w' nb (runS n S os (min len 100000)) K ∧ ycq K w w' := by
 have HS := yac hs
 have H0 := yac h
 have WF : Hid (∀ k : Nat, k ≤ 100000 → Wf (B + k) (runS n S os k)) := fun k hk => ywg hn h6 hS h0 hW os k (by omega)
 have LN : Hid (∀ k, (runS n S os k).length = n) := fun k => by unfold Hid at *; rw [ylz]; exact hS
 clear hs h hW
 go_enter q_func16, Tryz.ntmps15
 go_wp2_with fail
 go_loopw [7] (fun iv wr => ∃ i : Nat, i ≤ len ∧ i ≤ 100000 ∧ iv = .int .i64 i ∧ Hid (Ne w0 wr nb (runS n S os i) K) ∧ Hid (ycq K w wr)) (fun iv _ => len - (intOf iv).toNat)
 case atStart => exact ⟨0, Nat.zero_le _, Nat.zero_le _, rfl, H0, ycq.refl K w⟩
 case round =>
  clear H0
  obtain ⟨i, hi, hi', rfl, hN, hK⟩ := hrel
  by_cases hlt : i < len
  ·by_cases hlt' : i < 100000
   ·obtain ⟨ad, rfl, hO⟩ := HS.out i hlt
    obtain ⟨_, c0, c1, c2, c3, c4, r0, r1, r2, r3⟩ := hO.below hN.out.bel
    rw [add_next _ _ _ (by decide)] at c1 c2 c3 c4
    have hWi := WF.out i hi'
    have hLi := LN.out i
    have HR := yac (yjx n S os i)
    have d1 : decide ((i : Int) < (len : Int)) = true := by simp; omega
    have d2 : decide ((i : Int) < (100000 : Int)) = true := by simp; omega
    generalize os i = o at *
    generalize runS n S os i = Si at *
    generalize hSj : runS n S os (i + 1) = Sj at *
    have HJ := yac hSj
    clear hSj
    have hr := o.R_lt hn
    have hf := o.F_ok hn
    have PR : Hid (∀ V, Calls (twin Tryz.prog pl) 13 #[.int .i64 o.r, .int .i64 n] V fun e w' => e = .returned (.int .i64 (o.R n)) ∧ w' = V) := fun V => by
     have := yvu o.r n r1 (by omega) V
     have e : ((o.R n : Nat) : Int) = yeh o.r n := by unfold ych.R; have := ydw o.r n (by omega); omega
     rw [e]; exact this
    have PF : Hid (∀ V, Calls (twin Tryz.prog pl) 16 #[.int .i64 (o.R n), .int .i64 o.f, .int .i64 n] V fun e w' => e = .returned (.int .i64 (o.F n)) ∧ w' = V) := fun V => by
     have := qother (o.R n) n o.f hr ⟨hn, h6⟩ r2 V
     have e : ((o.F n : Nat) : Int) = yil (o.R n) o.f n := by unfold ych.F; have := yjt (o.R n) n o.f hr hn; omega
     rw [e]; exact this
    have hp8 := ydw o.path 8 (by decide)
    have PP : Hid (∀ V, Calls (twin Tryz.prog pl) 13 #[.int .i64 o.path, .int .i64 8] V fun e w' => e = .returned (.int .i64 ((yeh o.path 8).toNat : Nat)) ∧ w' = V) := fun V => by
     have := yvu o.path 8 r3 (by decide) V
     rw [Int.toNat_of_nonneg hp8.1]; exact this
    have PT : Hid (∀ V, Calls (twin Tryz.prog pl) 31 #[.int .i64 ((yeh o.path 8).toNat : Nat)] V fun e w' => e = .returned (.string o.P) ∧ w' = V) := fun V => qpath _ (by omega) V
    have hw8 := ydw o.what 8 (by decide)
    have PW : Hid (∀ V, Calls (twin Tryz.prog pl) 13 #[.int .i64 o.what, .int .i64 8] V fun e w' => e = .returned (.int .i64 (o.W : Nat)) ∧ w' = V) := fun V => by
     have := yvu o.what 8 r0 (by decide) V
     unfold ych.W
     rw [Int.toNat_of_nonneg hw8.1]; exact this
    have PK : Hid (∀ V, Calls (twin Tryz.prog pl) 13 #[.int .i64 o.f, .int .i64 2] V fun e w' => e = .returned (.int .i64 (yeh o.f 2)) ∧ w' = V) := fun V => yvu o.f 2 r2 (by decide) V
    have hW7 : o.W < 8 := by unfold ych.W; omega
    have HN : Hid (∀ cs t, Ne w0 (wr.alloc (.cells cs t)) nb Si K ∧ ycq K w (wr.alloc (.cells cs t))) := fun cs t => ⟨(hN.out.alloc cs t).1, hK.out.trans (hN.out.alloc cs t).2⟩
    have SW : Hid (o.W ≤ 2 → ∀ V, Ne w0 V nb Si K → _) := fun hk V hV => st_write (o := o) hn h6 hLi (by omega) (by omega) hWi hk V hV
    have SR : Hid (o.W = 3 → ∀ V, Ne w0 V nb Si K → _) := fun hk V hV => st_remove (o := o) hn h6 hLi (by omega) (by omega) hWi hk V hV
    have SP : Hid (o.W = 4 → ∀ V, Ne w0 V nb Si K → _) := fun hk V hV => st_path (o := o) hn h6 hLi hWi hk V hV
    have SL : Hid (o.W = 5 ∨ o.W = 6 → ∀ V, Ne w0 V nb Si K → _) := fun hk V hV => st_pull (o := o) hn h6 hLi (by omega) hWi hk V hV
    have SV : Hid (o.W = 7 → ∀ V, Ne w0 V nb Si K → _) := fun hk V hV => st_resolve (o := o) hn h6 hLi (by omega) (by omega) hWi hk V hV
    rw [← HR.out] at SW SR SP SL SV
    unfold ych.T at SV
    have hq2 := ydw o.f 2 (by decide)
    generalize yeh o.f 2 = q2 at *
    generalize (yeh o.path 8).toNat = kp at *
    generalize o.P = pp at *
    generalize o.R n = rr at *
    generalize o.F n = ff at *
    clear hO hWi hLi HR r0 r1 r2 r3 hp8 hw8
    have CU := yac (qcut o.text)
    generalize cutT o.text = ct at *
    generalize hoW : o.W = kw at *
    clear hoW
    match kw, hW7 with
    |0, _ =>
     go_wp2_with (first
      |(go_at_call_of 13 (Value.int .i64 o.r); refine (PR.out _).mono ?_; rintro e wz ⟨rfl, rfl⟩)
      |(go_at_call_of 13 (Value.int .i64 o.path); refine (PP.out _).mono ?_; rintro e wz ⟨rfl, rfl⟩)
      |(go_at_call_of 13 (Value.int .i64 o.what); refine (PW.out _).mono ?_; rintro e wz ⟨rfl, rfl⟩)
      |(go_at_call_of 13 (Value.int .i64 o.f); refine (PK.out _).mono ?_; rintro e wz ⟨rfl, rfl⟩)
      |(go_at_call 16; refine (PF.out _).mono ?_; rintro e wz ⟨rfl, rfl⟩)
      |(go_at_call 31; refine (PT.out _).mono ?_; rintro e wz ⟨rfl, rfl⟩)
      |(go_at_call 32; refine (CU.out _).mono ?_; rintro e wz ⟨rfl, rfl⟩)
      |(go_at_call 29; refine (SW.out (by decide) _ (HN.out _ _).1).mono ?_; rintro e w5 ⟨rfl, hN5, hK5⟩; have N5 := yac hN5; have K5 := yac hK5; clear hN5 hK5))
     go_roundw
     case rel => exact ⟨i + 1, by omega, by omega, by go_num, (by rw [HJ.out]; exact N5), (HN.out _ _).2.trans K5.out⟩
     case measure => simp [intOf]; omega
    |1, _ =>
     go_wp2_with (first
      |(go_at_call_of 13 (Value.int .i64 o.r); refine (PR.out _).mono ?_; rintro e wz ⟨rfl, rfl⟩)
      |(go_at_call_of 13 (Value.int .i64 o.path); refine (PP.out _).mono ?_; rintro e wz ⟨rfl, rfl⟩)
      |(go_at_call_of 13 (Value.int .i64 o.what); refine (PW.out _).mono ?_; rintro e wz ⟨rfl, rfl⟩)
      |(go_at_call_of 13 (Value.int .i64 o.f); refine (PK.out _).mono ?_; rintro e wz ⟨rfl, rfl⟩)
      |(go_at_call 16; refine (PF.out _).mono ?_; rintro e wz ⟨rfl, rfl⟩)
      |(go_at_call 31; refine (PT.out _).mono ?_; rintro e wz ⟨rfl, rfl⟩)
      |(go_at_call 32; refine (CU.out _).mono ?_; rintro e wz ⟨rfl, rfl⟩)
      |(go_at_call 29; refine (SW.out (by decide) _ (HN.out _ _).1).mono ?_; rintro e w5 ⟨rfl, hN5, hK5⟩; have N5 := yac hN5; have K5 := yac hK5; clear hN5 hK5))
     go_roundw
     case rel => exact ⟨i + 1, by omega, by omega, by go_num, (by rw [HJ.out]; exact N5), (HN.out _ _).2.trans K5.out⟩
     case measure => simp [intOf]; omega
    |2, _ =>
     go_wp2_with (first
      |(go_at_call_of 13 (Value.int .i64 o.r); refine (PR.out _).mono ?_; rintro e wz ⟨rfl, rfl⟩)
      |(go_at_call_of 13 (Value.int .i64 o.path); refine (PP.out _).mono ?_; rintro e wz ⟨rfl, rfl⟩)
      |(go_at_call_of 13 (Value.int .i64 o.what); refine (PW.out _).mono ?_; rintro e wz ⟨rfl, rfl⟩)
      |(go_at_call_of 13 (Value.int .i64 o.f); refine (PK.out _).mono ?_; rintro e wz ⟨rfl, rfl⟩)
      |(go_at_call 16; refine (PF.out _).mono ?_; rintro e wz ⟨rfl, rfl⟩)
      |(go_at_call 31; refine (PT.out _).mono ?_; rintro e wz ⟨rfl, rfl⟩)
      |(go_at_call 32; refine (CU.out _).mono ?_; rintro e wz ⟨rfl, rfl⟩)
      |(go_at_call 29; refine (SW.out (by decide) _ (HN.out _ _).1).mono ?_; rintro e w5 ⟨rfl, hN5, hK5⟩; have N5 := yac hN5; have K5 := yac hK5; clear hN5 hK5))
     go_roundw
     case rel => exact ⟨i + 1, by omega, by omega, by go_num, (by rw [HJ.out]; exact N5), (HN.out _ _).2.trans K5.out⟩
     case measure => simp [intOf]; omega
    |3, _ =>
     have SR2 : Hid (∀ V, Ne w0 V nb Si K → Calls (twin Tryz.prog pl) 33 #[.pointer (some ⟨nb, 0, none⟩), .int .i64 rr, .string pp] V fun e w' => ∃ z : Int, (z = 0 ∨ z = 4) ∧ e = .returned (.int .i64 z) ∧ Ne w0 w' nb Sj K ∧ ycq K V w') := SR.out rfl
     go_wp2_with (first
      |(go_at_call_of 13 (Value.int .i64 o.r); refine (PR.out _).mono ?_; rintro e wz ⟨rfl, rfl⟩)
      |(go_at_call_of 13 (Value.int .i64 o.path); refine (PP.out _).mono ?_; rintro e wz ⟨rfl, rfl⟩)
      |(go_at_call_of 13 (Value.int .i64 o.what); refine (PW.out _).mono ?_; rintro e wz ⟨rfl, rfl⟩)
      |(go_at_call_of 13 (Value.int .i64 o.f); refine (PK.out _).mono ?_; rintro e wz ⟨rfl, rfl⟩)
      |(go_at_call 16; refine (PF.out _).mono ?_; rintro e wz ⟨rfl, rfl⟩)
      |(go_at_call 31; refine (PT.out _).mono ?_; rintro e wz ⟨rfl, rfl⟩)
      |(go_at_call 32; refine (CU.out _).mono ?_; rintro e wz ⟨rfl, rfl⟩)
      |(go_at_call 33; refine (SR2.out _ (HN.out _ _).1).mono ?_; rintro e w5 ⟨z5, hz5, rfl, hN5, hK5⟩; have N5 := yac hN5; have K5 := yac hK5; have hz5' : z5 = 0 ∨ z5 = 4 := hz5; clear hN5 hK5; rcases hz5' with rfl | rfl))
     all_goals
      go_roundw
      case rel => exact ⟨i + 1, by omega, by omega, by go_num, (by rw [HJ.out]; exact N5), (HN.out _ _).2.trans K5.out⟩
      case measure => simp [intOf]; omega
    |4, _ =>
     go_wp2_with (first
      |(go_at_call_of 13 (Value.int .i64 o.r); refine (PR.out _).mono ?_; rintro e wz ⟨rfl, rfl⟩)
      |(go_at_call_of 13 (Value.int .i64 o.path); refine (PP.out _).mono ?_; rintro e wz ⟨rfl, rfl⟩)
      |(go_at_call_of 13 (Value.int .i64 o.what); refine (PW.out _).mono ?_; rintro e wz ⟨rfl, rfl⟩)
      |(go_at_call_of 13 (Value.int .i64 o.f); refine (PK.out _).mono ?_; rintro e wz ⟨rfl, rfl⟩)
      |(go_at_call 16; refine (PF.out _).mono ?_; rintro e wz ⟨rfl, rfl⟩)
      |(go_at_call 31; refine (PT.out _).mono ?_; rintro e wz ⟨rfl, rfl⟩)
      |(go_at_call 32; refine (CU.out _).mono ?_; rintro e wz ⟨rfl, rfl⟩)
      |(go_at_call 34; refine (SP.out (by trivial) _ (HN.out _ _).1).mono ?_; rintro e w5 ⟨z5, rfl, hN5, hK5⟩; have N5 := yac hN5; have K5 := yac hK5; clear hN5 hK5))
     go_roundw
     case rel => exact ⟨i + 1, by omega, by omega, by go_num, (by rw [HJ.out]; exact N5), (HN.out _ _).2.trans K5.out⟩
     case measure => simp [intOf]; omega
    |5, _ =>
     go_wp2_with (first
      |(go_at_call_of 13 (Value.int .i64 o.r); refine (PR.out _).mono ?_; rintro e wz ⟨rfl, rfl⟩)
      |(go_at_call_of 13 (Value.int .i64 o.path); refine (PP.out _).mono ?_; rintro e wz ⟨rfl, rfl⟩)
      |(go_at_call_of 13 (Value.int .i64 o.what); refine (PW.out _).mono ?_; rintro e wz ⟨rfl, rfl⟩)
      |(go_at_call_of 13 (Value.int .i64 o.f); refine (PK.out _).mono ?_; rintro e wz ⟨rfl, rfl⟩)
      |(go_at_call 16; refine (PF.out _).mono ?_; rintro e wz ⟨rfl, rfl⟩)
      |(go_at_call 31; refine (PT.out _).mono ?_; rintro e wz ⟨rfl, rfl⟩)
      |(go_at_call 32; refine (CU.out _).mono ?_; rintro e wz ⟨rfl, rfl⟩)
      |(go_at_call 17; refine (SL.out (by decide) _ (HN.out _ _).1).mono ?_; rintro e w5 ⟨z5, rfl, hN5, hK5⟩; have N5 := yac hN5; have K5 := yac hK5; clear hN5 hK5))
     go_roundw
     case rel => exact ⟨i + 1, by omega, by omega, by go_num, (by rw [HJ.out]; exact N5), (HN.out _ _).2.trans K5.out⟩
     case measure => simp [intOf]; omega
    |6, _ =>
     go_wp2_with (first
      |(go_at_call_of 13 (Value.int .i64 o.r); refine (PR.out _).mono ?_; rintro e wz ⟨rfl, rfl⟩)
      |(go_at_call_of 13 (Value.int .i64 o.path); refine (PP.out _).mono ?_; rintro e wz ⟨rfl, rfl⟩)
      |(go_at_call_of 13 (Value.int .i64 o.what); refine (PW.out _).mono ?_; rintro e wz ⟨rfl, rfl⟩)
      |(go_at_call_of 13 (Value.int .i64 o.f); refine (PK.out _).mono ?_; rintro e wz ⟨rfl, rfl⟩)
      |(go_at_call 16; refine (PF.out _).mono ?_; rintro e wz ⟨rfl, rfl⟩)
      |(go_at_call 31; refine (PT.out _).mono ?_; rintro e wz ⟨rfl, rfl⟩)
      |(go_at_call 32; refine (CU.out _).mono ?_; rintro e wz ⟨rfl, rfl⟩)
      |(go_at_call 17; refine (SL.out (by decide) _ (HN.out _ _).1).mono ?_; rintro e w5 ⟨z5, rfl, hN5, hK5⟩; have N5 := yac hN5; have K5 := yac hK5; clear hN5 hK5))
     go_roundw
     case rel => exact ⟨i + 1, by omega, by omega, by go_num, (by rw [HJ.out]; exact N5), (HN.out _ _).2.trans K5.out⟩
     case measure => simp [intOf]; omega
    |7, _ =>
     rcases (by omega : q2 = 0 ∨ q2 = 1) with rfl | rfl
     all_goals
      go_wp2_with (first
       |(go_at_call_of 13 (Value.int .i64 o.r); refine (PR.out _).mono ?_; rintro e wz ⟨rfl, rfl⟩)
       |(go_at_call_of 13 (Value.int .i64 o.path); refine (PP.out _).mono ?_; rintro e wz ⟨rfl, rfl⟩)
       |(go_at_call_of 13 (Value.int .i64 o.what); refine (PW.out _).mono ?_; rintro e wz ⟨rfl, rfl⟩)
       |(go_at_call_of 13 (Value.int .i64 o.f); refine (PK.out _).mono ?_; rintro e wz ⟨rfl, rfl⟩)
       |(go_at_call 16; refine (PF.out _).mono ?_; rintro e wz ⟨rfl, rfl⟩)
       |(go_at_call 31; refine (PT.out _).mono ?_; rintro e wz ⟨rfl, rfl⟩)
       |(go_at_call 32; refine (CU.out _).mono ?_; rintro e wz ⟨rfl, rfl⟩)
       |(go_at_call 35; refine (SV.out (by trivial) _ (HN.out _ _).1).mono ?_; rintro e w5 ⟨z5, hz5, rfl, hN5, hK5⟩; have N5 := yac hN5; have K5 := yac hK5; have hz5' : z5 = 0 ∨ z5 = 4 := hz5; clear hN5 hK5; rcases hz5' with rfl | rfl))
      all_goals
       go_roundw
       case rel => exact ⟨i + 1, by omega, by omega, by go_num, (by rw [HJ.out]; exact N5), (HN.out _ _).2.trans K5.out⟩
       case measure => simp [intOf]; omega
   ·have ei : i = 100000 := by omega
    subst ei
    have em : min len 100000 = 100000 := by omega
    have d1 : decide (((100000 : Nat) : Int) < (len : Int)) = true := by simp; omega
    go_wp2
    go_ret
    rw [em]
    exact ⟨rfl, hN.out, hK.out⟩
  ·have ei : i = len := by omega
   subst ei
   have em : min i 100000 = i := by omega
   have d1 : decide ((i : Int) < (i : Int)) = false := by simp
   go_wp2
   go_ret
   rw [em]
   exact ⟨rfl, hN.out, hK.out⟩
end Go.Proofs.YtaelaldmibgibaaGreatDoor

namespace Go.Proofs.YtaelaldmibgibaaGreatDoor
open Go.RowKit Go.Sim
open Classical
theorem vs_step {n : Nat} {S : List RS} (hn : 2 ≤ n) (h6 : n ≤ 6) (hS : S.length = n) {B : Int} (h0 : 0 ≤ B) (hW : Wf B S) (h : VS S) (o : ych) : VS (ydm n S o) := by
 have hr := o.R_lt hn
 have hf := o.F_ok hn
 have hl : S.length ≤ 6 := by omega
 have hr' : o.R n < S.length := by omega
 have hf' : o.F n < S.length := by omega
 unfold ydm
 split
 ·exact vs_write hl h hW hr' _ _ (yrz _)
 ·split
  ·exact vs_remove hl h hW hr' _
  ·split
   ·exact vs_path h hW hr' hf' _
   ·split
    ·exact ywv h h0 hW hr' hf'
    ·exact vs_resolve hl h hW hr' hf' _ _
theorem yqo (n i : Nat) : (ykz n).getD i rs0 = rs0 := by
 unfold ykz
 rw [List.getD_eq_getElem?_getD, List.getElem?_replicate]
 split <;> rfl
theorem newS_vs (n : Nat) : VS (ykz n) := by
 intro j hj
 have hc : ∀ i, CS (ykz n) i = 0 := fun i => by unfold CS; rw [yqo]; rfl
 rw [yqo]
 refine ⟨fun i => Int.le_refl 0, fun i => ?_, ?_, fun p => ?_, fun p R hp => ?_⟩
 ·rw [hc]; exact Int.le_refl 0
 ·rw [hc]; rfl
 ·exact Vr.empty (by omega) (fun i => Int.le_refl 0) (fun i => by rw [hc]; exact Int.le_refl 0)
 ·simp [rs0, yas] at hp
theorem newS_w0 (n : Nat) : Wf 0 (ykz n) := fun s hs => by
 obtain ⟨_, rfl⟩ := List.mem_replicate.1 hs
 exact ⟨List.Pairwise.nil, fun x hx => by simp at hx, fun i => Int.le_refl 0, fun i => Int.le_refl 0⟩
theorem begS_vs {n : Nat} (hn : 2 ≤ n) (h6 : n ≤ 6) : VS (begS n) := by
 have hl : (ykz n).length = n := by simp [ykz]
 have h1 := vs_write (by omega) (newS_vs n) (newS_w0 n) (r := 0) (by omega) yga ysv (by decide)
 rw [yqo] at h1
 have hw : Wf 1 ((ykz n).set 0 beg0) := by
  have z0 : Wf1 0 ynv := ⟨List.Pairwise.nil, fun x hx => by simp [ynv] at hx, fun i => Int.le_refl 0, fun i => Int.le_refl 0⟩
  exact ((newS_w0 n).mono (by decide)).set 0 (wr_wf z0 (by decide) (by decide) (by decide) ylq _).2
 have h2 := ywv h1 (by decide) hw (r := 1) (f := 0) (by rw [List.length_set]; omega) (by rw [List.length_set]; omega)
 rw [yiu (by decide), yqo, ygk (by omega)] at h2
 exact h2
theorem runS_vs {n : Nat} {S : List RS} (hn : 2 ≤ n) (h6 : n ≤ 6) (hS : S.length = n) {B : Int} (h0 : 0 ≤ B) (h : Wf B S) (hI : VS S) (os : Nat → ych) (k : Nat) (hk : B + k ≤ 1000000000) : VS (runS n S os k) := by
 induction k with
 |zero => exact hI
 |succ k ih =>
  rw [yjx]
  exact vs_step hn h6 (by rw [ylz]; exact hS) (B := B + k) (by omega) (ywg hn h6 hS h0 h os k (by omega)) (ih (by omega)) (os k)
open Go.RowKit Go.Lib Go.Sim
theorem ymp {n : Nat} {k : Nat → Int} (h0 : ∀ i, 0 ≤ k i) (hz : ∀ i, n ≤ i → k i = 0) : lfn ((List.range n).map (fun i => (k i).toNat)) = k := by
 funext j
 unfold lfn
 rw [List.getD_eq_getElem?_getD, List.getElem?_map]
 by_cases h : j < n
 ·rw [List.getElem?_range h]
  have := h0 j
  simp
  omega
 ·rw [List.getElem?_eq_none (by simp; omega), hz j (by omega)]
  rfl
def dsO (n : Nat) (R : Rec) : DS := ⟨(List.range n).map (fun i => (R.kn i).toNat), decide (0 < R.bn), R.br.toNat, R.bn.toNat, (List.range n).map (fun i => (R.ch i).toNat), bs R.text⟩
def drO (n j : Nat) (s : RS) : DR := ⟨(List.range n).map (fun i => (s.cm i).toNat), s.E.map (fun x => (x.1, dsO n (yay j s.cm (some x.2))))⟩
def netO (S : List RS) : List DR := (List.range S.length).map (fun j => drO S.length j (S.getD j rs0))
section
variable {n : Nat} {C : Nat → Int} {R : Rec}
theorem dsO_ok (h : Vr n C R) (hB : ∀ i, C i ≤ 1000000000) : (dsO n R).ok n := by
 obtain ⟨b, hb, hbr, hbn⟩ := h.br
 have c1 := h.chK b
 have c2 := h.knC b
 have c3 := hB b
 have c4 := h.bn0
 refine ⟨by simp [dsO], fun v hv => ?_, fun _ => ⟨?_, ?_, by simp [dsO], fun v hv => ?_, ?_⟩, fun ht => ?_⟩
 ·obtain ⟨i, _, rfl⟩ := List.mem_map.1 hv
  have := h.knC i
  have := hB i
  omega
 ·show R.br.toNat < n
  rw [hbr]
  simpa using hb
 ·show R.bn.toNat ≤ 1000000000
  omega
 ·obtain ⟨i, _, rfl⟩ := List.mem_map.1 hv
  have := h.chK i
  have := h.knC i
  have := hB i
  omega
 ·show (bs R.text).length ≤ 60
  rw [you]
  exact h.txt
 ·have hn : ¬ 0 < R.bn := by simpa [dsO] using ht
  obtain ⟨e1, e2, e3⟩ := h.none hn
  refine ⟨?_, ?_, ?_, ?_⟩
  ·show R.br.toNat = 0
   rw [e2]; rfl
  ·show R.bn.toNat = 0
   omega
  ·show (List.range n).map (fun i => (R.ch i).toNat) = List.replicate n 0
   rw [e3]
   apply List.ext_getElem
   ·simp
   ·intro i h1 h2
    simp
  ·show bs R.text = []
   rw [e1]; rfl
theorem dsO_rec (h : Vr n C R) (hC : ∀ i, n ≤ i → C i = 0) : yej (dsO n R) = R := by
 obtain ⟨b, hb, hbr, hbn⟩ := h.br
 have k0 : ∀ i, n ≤ i → R.kn i = 0 := fun i hi => by have := h.knC i; have := h.kn0 i; have := hC i hi; omega
 have c0 : ∀ i, n ≤ i → R.ch i = 0 := fun i hi => by have := h.chK i; have := h.ch0 i; have := k0 i hi; omega
 have e1 := ymp h.kn0 k0
 have e2 := ymp h.ch0 c0
 have e3 : (R.br.toNat : Int) = R.br := by rw [hbr]; rfl
 have e4 : (R.bn.toNat : Int) = R.bn := by have := h.bn0; omega
 have e5 : yax (bs R.text) = R.text := yig (ybe _)
 unfold yej dsO
 simp only
 rw [e1, e2, e3, e4, e5]
theorem dsO_born (h : Vr n C R) : (dsO n R).born := by
 intro ht
 have hp : 0 < R.bn := by simpa [dsO] using ht
 obtain ⟨b, hb, hbr, hbn⟩ := h.br
 refine ⟨?_, ?_⟩
 ·show 1 ≤ R.bn.toNat
  omega
 ·show R.bn.toNat ≤ ((List.range n).map (fun i => (R.ch i).toNat)).getD R.br.toNat 0
  have e : R.br.toNat = b := by rw [hbr]; rfl
  rw [e, List.getD_eq_getElem?_getD, List.getElem?_map, List.getElem?_range hb]
  simp
  omega
end
theorem yvj {S : List RS} {i : Nat} {d : DR} (h : (netO S)[i]? = some d) : i < S.length ∧ d = drO S.length i (S.getD i rs0) := by
 unfold netO at h
 rw [List.getElem?_map] at h
 by_cases hi : i < S.length
 ·rw [List.getElem?_range hi] at h
  simp only [Option.map_some, Option.some.injEq] at h
  exact ⟨hi, h.symm⟩
 ·rw [List.getElem?_eq_none (by simp; omega)] at h
  cases h
theorem ylt (S : List RS) : (netO S).length = S.length := by simp [netO]
section
variable {S : List RS} {B : Int}
theorem tells_of (hV : VS S) (hW : Wf B S) : Tells S (netO S) := by
 refine ⟨(ylt S).symm, fun i s d hs hd => ?_⟩
 obtain ⟨hi, rfl⟩ := yvj hd
 have es : S.getD i rs0 = s := by rw [List.getD_eq_getElem?_getD, hs]; rfl
 have hv := hV i hi
 rw [es] at hv ⊢
 have w1 := hW.at hs
 have hx : ∀ x ∈ s.E, Vr S.length (CS S) (yay i s.cm (some x.2)) := fun x hx => by
  have := hv.vw x.1
  rw [yiv w1.ris (R := x.2) hx] at this
  exact this
 refine ⟨ymp hv.cm0 (fun j hj => ?_), ?_, fun y hy => ?_, fun y hy => ?_⟩
 ·have h1 := hv.cmC j
  rw [CS_out hj] at h1
  have := hv.cm0 j
  omega
 ·show s.E.map (fun z : ByteArray × Rec => z.1) = (s.E.map (fun x => (x.1, dsO S.length (yay i s.cm (some x.2))))).map (fun z : ByteArray × DS => z.1)
  rw [List.map_map]
  rfl
 ·obtain ⟨x, hx', rfl⟩ := List.mem_map.1 hy
  show yay i s.cm (yas x.1 s.E) = yej (dsO S.length (yay i s.cm (some x.2)))
  rw [dsO_rec (hx x hx') (fun j hj => CS_out hj), yiv w1.ris (R := x.2) hx']
 ·obtain ⟨x, hx', rfl⟩ := List.mem_map.1 hy
  exact dsO_born (hx x hx')
theorem okNet_of (hV : VS S) (hW : Wf B S) (hB : B ≤ 1000000000) (h0 : 0 ≤ B) (h1 : 1 ≤ S.length) (h6 : S.length ≤ 6) : okNet (netO S) := by
 have hC : ∀ i, CS S i ≤ 1000000000 := fun i => by
  by_cases hi : i < S.length
  ·have := (hW.at (List.getElem?_eq_getElem hi)).hi i
   unfold CS
   rw [List.getD_eq_getElem?_getD, List.getElem?_eq_getElem hi]
   simp only [Option.getD_some]
   omega
  ·rw [CS_out (by omega)]; omega
 refine ⟨by rw [ylt]; exact h1, by rw [ylt]; exact h6, fun d hd => ?_⟩
 obtain ⟨i, hi, e⟩ := List.getElem_of_mem hd
 obtain ⟨hi2, rfl⟩ := yvj (d := d) (i := i) (by rw [List.getElem?_eq_getElem hi, e])
 rw [ylt]
 have hs := List.getElem?_eq_getElem hi2
 have es : S.getD i rs0 = S[i] := by rw [List.getD_eq_getElem?_getD, hs]; rfl
 have hv := hV i hi2
 rw [es] at hv ⊢
 have w1 := hW.at hs
 generalize S[i] = s at *
 have hx : ∀ x ∈ s.E, Vr S.length (CS S) (yay i s.cm (some x.2)) := fun x hx => by
  have := hv.vw x.1
  rw [yiv w1.ris (R := x.2) hx] at this
  exact this
 refine ⟨by simp [drO], fun v hv' => ?_, ⟨fun r hr => ?_, fun r hr => ?_, ?_⟩⟩
 ·obtain ⟨j, _, rfl⟩ := List.mem_map.1 hv'
  have := hv.cmC j
  have := hC j
  omega
 ·obtain ⟨x, hx', rfl⟩ := List.mem_map.1 hr
  exact (yfi x.1 (w1.kin x hx')).1
 ·obtain ⟨x, hx', rfl⟩ := List.mem_map.1 hr
  exact dsO_ok (hx x hx') hC
 ·show (s.E.map _).Pairwise _
  rw [List.pairwise_map]
  exact w1.ris
theorem recs_len (hW : Wf B S) : ∀ d ∈ netO S, d.recs.length ≤ 10 := fun d hd => by
 obtain ⟨i, hi, e⟩ := List.getElem_of_mem hd
 obtain ⟨hi2, rfl⟩ := yvj (d := d) (i := i) (by rw [List.getElem?_eq_getElem hi, e])
 have hs := List.getElem?_eq_getElem hi2
 have es : S.getD i rs0 = S[i] := by rw [List.getD_eq_getElem?_getD, hs]; rfl
 rw [es]
 show (S[i].E.map _).length ≤ 10
 rw [List.length_map]
 exact (hW.at hs).len
end
theorem dsT_len {n : Nat} {d : DS} (h : d.ok n) (h6 : n ≤ 6) : d.T.length ≤ 1000 := by
 have t1 := yfe d.known h.kb
 rw [h.kl] at t1
 unfold DS.T
 cases ht : d.there with
 |true =>
  obtain ⟨y1, y2, y3, y4, y5⟩ := h.yes ht
  have t2 := ydh 10 d.by_ (Nat.lt_of_lt_of_le (by omega : d.by_ < 1000000000) (by decide))
  have t3 := ydh 10 d.num (Nat.lt_of_le_of_lt y2 (by decide))
  have t4 := yfe d.chg y4
  rw [y3] at t4
  have t5 := ylp d.text
  simp [DS.tail]
  omega
 |false =>
  simp
  omega
theorem drsT_len {n : Nat} (h6 : n ≤ 6) : ∀ {D : Drs}, okDrs n D → (drsT D).length ≤ D.length * 1012
 |[], _ => Nat.zero_le _
 |(p, d) :: D, h => by
  have ih := drsT_len h6 (D := D) ⟨fun r hr => h.paths r (List.mem_cons_of_mem _ hr), fun r hr => h.oks r (List.mem_cons_of_mem _ hr), (List.pairwise_cons.1 h.rise).2⟩
  have h1 := h.paths (p, d) (List.mem_cons_self ..)
  have hp : p.size ≤ 12 := by unfold ycw at h1; simp only [Bool.and_eq_true, decide_eq_true_eq] at h1; omega
  have h2 := dsT_len (h.oks (p, d) (List.mem_cons_self ..)) h6
  have e : drsT ((p, d) :: D) = bs p ++ (d.T ++ drsT D) := by simp [drsT]
  rw [e, List.length_append, List.length_append, you, List.length_cons]
  simp only at h2
  omega
theorem body_small {m : List DR} (hm : okNet m) (hr : ∀ d ∈ m, d.recs.length ≤ 10) : (ynz m).length ≤ 10000000 := by
 have h6 := hm.n6
 have key : ∀ l : List DR, (∀ d ∈ l, d ∈ m) → (yvy l).length ≤ l.length * 20000 := by
  intro l
  induction l with
  |nil => intro _; simp [yvy]
  |cons d l ih =>
   intro hl
   have i1 := ih (fun x hx => hl x (List.mem_cons_of_mem _ hx))
   have hd := hl d (List.mem_cons_self ..)
   have ho := hm.oks d hd
   have t1 := yfe d.com ho.cb
   rw [ho.cl] at t1
   have t2 := drsT_len h6 ho.recs
   have t3 := hr d hd
   have t4 : (bs yjv).length = 8 := rfl
   have e : yvy (d :: l) = d.T ++ yvy l := by simp [yvy]
   have e2 : d.T.length ≤ 20000 := by
    unfold DR.T
    simp only [List.length_append, List.length_cons, t4]
    omega
   rw [e, List.length_append, List.length_cons]
   omega
 have k := key m (fun d h => h)
 have t1 := ydh 10 m.length (Nat.lt_of_le_of_lt h6 (by decide))
 have t2 : (bs yib).length = 8 := rfl
 unfold ynz
 simp only [List.length_append, List.length_cons, t2]
 omega
end Go.Proofs.YtaelaldmibgibaaGreatDoor

namespace Go.Proofs.YtaelaldmibgibaaGreatDoor
open Go.RowKit Go.Sim
theorem ePack {w0 w : World} {nb : Nat} {S : List RS} {K : List Nat} (h : Ne w0 w nb S K) (hg : yli w0) {B : Int} (hV : VS S) (hW : Wf B S) (hB : B ≤ 1000000000) (h0 : 0 ≤ B) (h1 : 1 ≤ S.length) (h6 : S.length ≤ 6) :
  Calls (twin Tryz.prog pl) 18 #[.pointer (some ⟨nb, 0, none⟩)] w fun e w' => e = .returned (.string (yax (yvo (netO S)))) ∧ Ne w0 w' nb S K ∧ ycq K w w' := by
 obtain ⟨pb, L, hN, _⟩ := h.ex
 have hr := recs_len hW
 have ho := okNet_of hV hW hB h0 h1 h6
 refine (shared.calls (by decide) h.fix (npack_any (netO S) w hN ho (tells_of hV hW) (fun d hd => by have := hr d hd; omega) (body_small ho hr) (hg.below h.bel)) (fun e w' h => ⟨_, h.1⟩)).mono ?_
 rintro e w' ⟨⟨rfl, hb⟩, hx⟩
 obtain ⟨q1, q2⟩ := h.more hb hx
 exact ⟨rfl, q1, q2⟩
theorem Ne.beside {w0 w : World} {nb : Nat} {S : List RS} {K : List Nat} (h : Ne w0 w nb S K) {g : Nat} {cur : Array Value} (hg : w.heap[g]? = some (.cells cur 44 (0, 0))) : Ne w0 w nb S (g :: K) := by
 obtain ⟨pb, L, hN, h1, h2, h3⟩ := h.ex
 refine ⟨⟨pb, L, hN, h1, h2, fun k hk => ?_⟩, h.nge, h.bel, h.fix, h.kin⟩
 rcases List.mem_cons.1 hk with rfl | hk
 ·refine ⟨(Array.getElem?_eq_some_iff.1 hg).1, fun e => ?_, fun e => ?_, fun x hx => ?_⟩
  ·subst e
   obtain ⟨cap, hc⟩ := hN.net.blk
   rw [hc] at hg
   simp at hg
  ·subst e
   obtain ⟨c, hc⟩ := hN.pbk
   rw [hc] at hg
   simp at hg
  ·obtain ⟨i, hi, e⟩ := List.getElem_of_mem hx
   have hl : L[i]? = some x := by rw [List.getElem?_eq_getElem hi, e]
   have hs := List.getElem?_eq_getElem (l := S) (i := i) (by rw [← hN.len]; exact hi)
   have hR := hN.rep i x _ hl hs
   refine ⟨fun e => ?_, fun e => ?_⟩
   ·subst e
    rw [hR.rep.blk] at hg
    simp at hg
   ·subst e
    obtain ⟨es, clock, hm, _⟩ := hR.own
    rw [hm] at hg
    simp at hg
 ·exact h3 k hk
theorem Ne.row {w0 w : World} {nb : Nat} {S : List RS} {K : List Nat} (h : Ne w0 w nb S K) {base n : Nat} {v : Value} {xs : List Value} (hr : w.ownsRow base 44 3 v n xs) : Ne w0 w nb S (v.ownBlock.toList ++ K) := by
 rcases hr.2 with ⟨rfl, _⟩ | ⟨g, cap, cur, rfl, _, hc, _⟩
 ·exact h
 ·exact h.beside hc
theorem yly {w w' : World} {base n : Nat} {t : TypeId} {v : Value} {xs : List Value} {K : List Nat} (h : w.ownsRow base t 3 v n xs) (hk : ycq (v.ownBlock.toList ++ K) w w') : w'.ownsRow base t 3 v n xs :=
 yan h (fun k e => hk k (by rw [e]; simp))
theorem ytg {w : World} {base n : Nat} {t : TypeId} {v : Value} {xs : List Value} (h : w.ownsRow base t 3 v n xs) : ∃ c1 c3, v = .slice c1 n c3 := by
 rcases h.2 with ⟨rfl, rfl⟩ | ⟨g, cap, cur, rfl, _⟩
 ·exact ⟨_, _, rfl⟩
 ·exact ⟨_, _, rfl⟩
theorem chv_at (s : Nat) : ∀ (l : List (ByteArray × Int)) (i : Nat) (x : ByteArray × Int), l[i]? = some x → (chv s l)[i * 3]? = some (.int .i64 s) ∧ (chv s l)[i * 3 + 1]? = some (.string x.1) ∧ (chv s l)[i * 3 + 2]? = some (.int .i64 x.2)
 |[], i, x, h => by simp at h
 |y :: l, 0, x, h => by
  simp at h
  subst h
  exact ⟨rfl, rfl, rfl⟩
 |y :: l, i + 1, x, h => by
  have ih := chv_at s l i x (by simpa using h)
  have e : chv s (y :: l) = [Value.int .i64 s, .string y.1, .int .i64 y.2] ++ chv s l := rfl
  rw [e, List.getElem?_append_right (by simp; omega), List.getElem?_append_right (by simp; omega), List.getElem?_append_right (by simp; omega)]
  simp only [List.length_cons, List.length_nil]
  have e1 : (i + 1) * 3 - 3 = i * 3 := by omega
  have e2 : (i + 1) * 3 + 1 - 3 = i * 3 + 1 := by omega
  have e3 : (i + 1) * 3 + 2 - 3 = i * 3 + 2 := by omega
  simp only [Nat.zero_add, Nat.reduceAdd, e1, e2, e3]
  exact ih
theorem ync {w : World} {base r : Nat} {l : List (ByteArray × Int)} {c1 : Option Addr} {c3 : Nat} (h : w.ownsRow base 44 3 (.slice c1 l.length c3) l.length (chv r l)) {i : Nat} {x : ByteArray × Int} (hi : l[i]? = some x) :
  ∃ g, c1 = some ⟨g, 0, none⟩ ∧ w.cell? ⟨g, i * 3, none⟩ = some (.int .i64 r) ∧ w.cell? ⟨g, i * 3 + 1, none⟩ = some (.string x.1) ∧ w.cell? ⟨g, i * 3 + 2, none⟩ = some (.int .i64 x.2) := by
 have hlt := (List.getElem?_eq_some_iff.1 hi).1
 obtain ⟨g, cap, e, _⟩ := World.ownsRow.form h (by omega)
 cases e
 obtain ⟨q1, q2, q3⟩ := chv_at r l i x hi
 exact ⟨g, rfl, (World.ownsRow.cellAt h _ (by omega)).trans q1, (World.ownsRow.cellAt h _ (by omega)).trans q2, (World.ownsRow.cellAt h _ (by omega)).trans q3⟩
def isC (z : ByteArray × Int) : Bool := decide (z.2 = 3)
theorem yry {l : List (ByteArray × Int)} {i : Nat} {x : ByteArray × Int} (h : l[i]? = some x) : ((l.take (i + 1)).filter isC).length = ((l.take i).filter isC).length + (isC x).toNat := by
 rw [List.take_add_one, h, Option.toList_some, List.filter_append, List.length_append]
 cases e : isC x <;> simp [e]
theorem conf_at {l : List (ByteArray × Int)} {i : Nat} {x : ByteArray × Int} (h : l[i]? = some x) (hx : isC x = true) : (l.filter isC)[((l.take i).filter isC).length]? = some x := by
 have hi := (List.getElem?_eq_some_iff.1 h).1
 have e : l = l.take i ++ x :: l.drop (i + 1) := by
  have := List.take_append_drop i l
  rw [List.drop_eq_getElem_cons hi, (List.getElem?_eq_some_iff.1 h).2] at this
  exact this.symm
 have e2 : l.filter isC = (l.take i).filter isC ++ x :: (l.drop (i + 1)).filter isC := by
  conv => lhs; rw [e]
  rw [List.filter_append, List.filter_cons_of_pos hx]
 rw [e2, List.getElem?_append_right (Nat.le_refl _), Nat.sub_self]
 rfl
theorem q_funcC : (twin Tryz.prog pl).funcs[19]? = some Tryz.f19 := yfu Tryz.func19 (by decide) (by kernel_rfl)
theorem qconf {base r : Nat} {l : List (ByteArray × Int)} {c1 : Option Addr} {c3 : Nat} {w : World} (h : w.ownsRow base 44 3 (.slice c1 l.length c3) l.length (chv r l)) (hl : l.length ≤ 1000) :
  Calls (twin Tryz.prog pl) 19 #[.slice c1 l.length c3] w fun e w' => e = .returned (.int .i64 (l.filter isC).length) ∧ w' = w := by
 have HO := yac h
 clear h
 go_enter q_funcC, Tryz.ntmps19
 go_wp2_with fail
 go_loopw [3, 4] (fun nv iv wr => ∃ i : Nat, i ≤ l.length ∧ iv = .int .i64 i ∧ nv = .int .i64 ((l.take i).filter isC).length ∧ wr = w) (fun _ iv _ => l.length - (intOf iv).toNat)
 case atStart => exact ⟨0, Nat.zero_le _, rfl, rfl, rfl⟩
 case round =>
  obtain ⟨i, hi, rfl, rfl, rfl⟩ := hrel
  by_cases hil : i < l.length
  ·have d1 : decide ((i : Int) < (l.length : Int)) = true := by simp; omega
   obtain ⟨ch, hch⟩ : ∃ ch, l[i]? = some ch := ⟨_, List.getElem?_eq_getElem hil⟩
   obtain ⟨g, rfl, _, _, hc⟩ := ync HO.out hch
   have ST := yac (yry hch)
   have hkl : ((l.take i).filter isC).length ≤ l.length := Nat.le_trans (List.length_filter_le _ _) (by simp; omega)
   clear hch
   cases d2 : (ch.2 == 3) with
   |false =>
    have hf : isC ch = false := by unfold isC; simpa using d2
    rw [hf] at ST
    go_wp2
    go_roundw
    case rel => exact ⟨i + 1, by omega, by go_num, by rw [ST.out]; rfl, by first | rfl | trivial⟩
    case measure => simp [intOf]; omega
   |true =>
    have hf : isC ch = true := by unfold isC; simpa using d2
    rw [hf] at ST
    generalize ((l.take i).filter isC).length = kk at *
    go_wp2
    go_roundw
    case rel => exact ⟨i + 1, by omega, by go_num, by rw [ST.out]; go_num, by first | rfl | trivial⟩
    case measure => simp [intOf]; omega
  ·have ei : i = l.length := by omega
   subst ei
   have d1 : decide ((l.length : Int) < (l.length : Int)) = false := by simp
   rw [List.take_length]
   go_wp2
   go_ret
   exact ⟨rfl, rfl⟩
theorem yun (n : Nat) : Wf 1 (begS n) := by
 have z0 : Wf1 0 ynv := ⟨List.Pairwise.nil, fun x hx => by simp [ynv] at hx, fun i => Int.le_refl 0, fun i => Int.le_refl 0⟩
 have b0 : Wf1 1 beg0 := (wr_wf z0 (by decide) (by decide) (by decide) ylq _).2
 have b1 : Wf1 1 beg1 := (ysz (z0.mono (by decide)) b0 (by decide)).2.1
 have hn : Wf 1 (ykz n) := fun s hs => by
  obtain ⟨_, rfl⟩ := List.mem_replicate.1 hs
  exact z0.mono (by decide)
 exact (hn.set 0 b0).set 1 b1
theorem ylm (n : Nat) : (begS n).length = n := by simp [begS, ykz]
end Go.Proofs.YtaelaldmibgibaaGreatDoor
