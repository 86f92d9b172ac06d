/- Histories (pure): a pull of a path, a pull of all, what is told, what is read; a new net. Histories: a net and its pasts in one memory. Histories: the net's calls, with the pasts beside it; over the twin. Histories: what the pasts do, with the net beside them; over the twin. A net that copies a file: what begun answers (pure). A net that copies a file: begun. Scripts of the statements that do not ask the document's answer: play, over the twin. The states of a net that has begun may be. Lost over the twin: two lists of its own beside the net. -/
import Derived.Test.YtaelaldmibgibaaGreatH47
import Derived.Test.YtaelaldmibgibaaGreatH28
import Derived.Test.YtaelaldmibgibaaGreatH45
import Derived.Test.YtaelaldmibgibaaGreatH29
import Derived.Test.YtaelaldmibgibaaGreatH30
import Derived.Test.YtaelaldmibgibaaGreatH31
import Derived.Test.YtaelaldmibgibaaGreatH32
import Derived.Test.YtaelaldmibgibaaGreatH46
import Derived.Test.YtaelaldmibgibaaGreatH14
import Derived.BigQuiet
import Derived.Deep.QuietTactic

set_option linter.unusedVariables false
set_option linter.unusedSimpArgs false
set_option linter.unusedSectionVars false

namespace Go.Proofs.YtaelaldmibgibaaGreat
open Go.RowKit Go.Sim
open Classical
section
variable {n : Nat} {S : List RS} {G : Gst} {H : ByteArray → Ev → Prop}
def yoo (G : Gst) (a b : Nat) (p : ByteArray) : Gst := ⟨G.c, yan p G.ps, ybn G.pa a p (ybv (G.pa a p) (G.pa b p)).1⟩
theorem pullR_kn (t f : Rec) : (yba t f).1.kn = t.kn ∨ (yba t f).1.kn = yad t.kn f.kn := by
 unfold yba
 (repeat' split)
 ·exact .inl rfl
 ·exact .inl rfl
 ·exact .inr rfl
 ·exact .inr rfl
 ·exact .inr rfl
theorem HG.knle (h : HG n S G H) {a b : Nat} (ha : a < n) (hb : b < n) (p : ByteArray) (k : Nat) (hk : k < n) : (yba (vw a (S.getD a rs0) p) (vw b (S.getD b rs0) p)).1.kn k ≤ CS S k := by
 have n6 := h.n6
 have l1 := h.hi a ha p k hk
 have l2 := h.hi b hb p k hk
 have l3 := (h.rg a ha p).lo k (by omega)
 rcases pullR_kn (vw a (S.getD a rs0) p) (vw b (S.getD b rs0) p) with q | q
 ·rw [q]; exact l1
 ·rw [q, ybk l3]; omega
theorem HG.known (h : HG n S G H) {a b : Nat} (ha : a < n) (hb : b < n) (p : ByteArray) : (yba (vw a (S.getD a rs0) p) (vw b (S.getD b rs0) p)).1.kn a = CS S a := by
 have n6 := h.n6
 have l1 : (vw a (S.getD a rs0) p).kn a = CS S a := yno _ _ _
 have l2 := h.hi b hb p a ha
 have l3 := (h.rg a ha p).lo a (by omega)
 rcases pullR_kn (vw a (S.getD a rs0) p) (vw b (S.getD b rs0) p) with q | q
 ·rw [q]; exact l1
 ·rw [q, ybk l3]; omega
theorem HG.path (h : HG n S G H) {a b : Nat} (ha : a < n) (hb : b < n) {p : ByteArray} (hp : yat p = true) (ho : (ppR a (S.getD a rs0) b (S.getD b rs0) p).2.1 = 0) : (ppR a (S.getD a rs0) b (S.getD b rs0) p).1 = yap (G.pa a p) (G.pa b p) ∧ HG n (S.set a (ppR a (S.getD a rs0) b (S.getD b rs0) p).2.2) (yoo G a b p) H := by
 have n6 := h.n6
 have hpl := yoq (h.he p) (h.rg a ha p) (h.rg b hb p) (h.ver p a ha b hb)
 unfold ppR at ho ⊢
 split at ho
 ·simp at ho
 ·next hc =>
  rw [if_neg hc]
  clear ho hc
  show (yba (vw a (S.getD a rs0) p) (vw b (S.getD b rs0) p)).2 = _ ∧ HG n (S.set a ⟨(S.getD a rs0).cm, ybl (S.getD a rs0).cm p (yba (vw a (S.getD a rs0) p) (vw b (S.getD b rs0) p)).1 (S.getD a rs0).E⟩) _ H
  refine ⟨by rw [← hpl.1, yll], ?_⟩
  have hkn := h.knle ha hb p
  have hka := h.known ha hb p
  have hE := h.ris a ha
  obtain ⟨_, g1, g2⟩ := hpl
  obtain ⟨v1, v2, v3⟩ := vw_kept (i := a) (cm := (S.getD a rs0).cm) (p := p) (R := (yba (vw a (S.getD a rs0) p) (vw b (S.getD b rs0) p)).1) hE hka
  have vq : ∀ q, q ≠ p → vw a ⟨(S.getD a rs0).cm, ybl (S.getD a rs0).cm p (yba (vw a (S.getD a rs0) p) (vw b (S.getD b rs0) p)).1 (S.getD a rs0).E⟩ q = vw a (S.getD a rs0) q := fun q hq => ype hE hq
  refine h.set ha (ybx _ _ _ _ hE) (h.lo a ha) (Int.le_refl _) (fun k hk _ => h.hc a ha k hk) (fun i hi => ?_) (fun _ _ he => he) (fun _ _ he => .inl he) (fun i hi q => ytg hi) (fun q k hk hkr => ?_) (fun q => ?_) (fun q hb' => ?_) (fun x hx => ?_) (fun q hq => ydr.2 (.inl hq)) (fun i q hq => ?_) (yaw h.nd) (fun q hq => ?_)
  ·show G.c i = _
   split
   ·next z => rw [z, h.cnt a ha]; rfl
   ·rfl
  ·by_cases z : q = p
   ·subst z
    rw [v2 k (by omega)]
    exact hkn k hk
   ·rw [vq q z]
    exact h.hi a ha q k hk
  ·show RG (H q) _ (ybn G.pa a p _ a q)
   by_cases z : q = p
   ·subst z
    rw [ydd]
    exact g1.congr (h.he q) v1 (v3 (fun nb k hk => g1.chz nb k hk)) v2
   ·rw [yht z, vq q z]
    exact h.rg a ha q
  ·refine .inl ?_
   show ∃ j < n, _ ∧ _ ∧ _ ∧ ∀ e, e ∈ (ybn G.pa a p _ a q).made ↔ _
   by_cases z : q = p
   ·subst z
    rw [ydd]
    have b1 := v1.bn.1 hb'
    rcases v1 with y | y
    ·exact absurd hb' y.1
    ·rcases g2 with q2 | q2 | q2
     ·exact ⟨a, ha, by rw [y.2.1, q2.2.1], by rw [y.2.2.1, q2.1], fun k _ => by rw [y.2.2.2, q2.2.2.1], fun e => by rw [q2.2.2.2]⟩
     ·exact ⟨b, hb, by rw [y.2.1, q2.2.1], by rw [y.2.2.1, q2.1], fun k _ => by rw [y.2.2.2, q2.2.2.1], fun e => by rw [q2.2.2.2]⟩
     ·exact absurd b1 q2
   ·rw [yht z, vq q z]
    exact ⟨a, ha, rfl, rfl, fun _ _ => rfl, fun _ => Iff.rfl⟩
  ·refine ydr.2 ?_
   rcases keepE_in hE hx with z | z | ⟨y, hy, z⟩
   ·exact .inr z
   ·exact .inl (h.kin a ha x z)
   ·rw [← z]; exact .inl (h.kin a ha y hy)
  ·have z := fun y => hq (ydr.2 y)
   have zp : q ≠ p := fun y => z (.inr y)
   show ybn G.pa a p _ i q = _
   rw [yht zp]
   exact h.new i q (fun y => z (.inl y))
  ·rcases ydr.1 hq with z | rfl
   ·exact h.okp q z
   ·exact hp
theorem vw_all {x y : RS} (hx : yay x.E) {r f : Nat} (p : ByteArray) (hk : (yba (vw r x p) (vw f y p)).1.kn r = yad x.cm y.cm r) :
  ynm (vw r ⟨yad x.cm y.cm, (yhx r x.cm x.E f y.cm y.E).1⟩ p) (yba (vw r x p) (vw f y p)).1 ∧ (∀ k < 6, (vw r ⟨yad x.cm y.cm, (yhx r x.cm x.E f y.cm y.E).1⟩ p).kn k = (yba (vw r x p) (vw f y p)).1.kn k) ∧ ((¬ 0 < (yba (vw r x p) (vw f y p)).1.bn → ∀ k < 6, (yba (vw r x p) (vw f y p)).1.ch k = 0) → ¬ 0 < (vw r ⟨yad x.cm y.cm, (yhx r x.cm x.E f y.cm y.E).1⟩ p).bn → ∀ k < 6, (vw r ⟨yad x.cm y.cm, (yhx r x.cm x.E f y.cm y.E).1⟩ p).ch k = 0) := by
 have hE : ycm (x.E.map (·.1)) := by
  unfold ycm
  rw [List.pairwise_map]
  exact hx
 obtain ⟨u1, u2⟩ := yfl (y.E.map (·.1)) _ hE
 have hg := get_fold (s := r) (cm := x.cm) (E := x.E) (s' := f) (cm' := y.cm) (E' := y.E) p _ ([], []) List.Pairwise.nil u1
 have ev : vw r ⟨yad x.cm y.cm, (yhx r x.cm x.E f y.cm y.E).1⟩ p = ybp r (yad x.cm y.cm) (ybb p ((yci (x.E.map (·.1)) (y.E.map (·.1))).foldl (yfx r x.cm x.E f y.cm y.E) ([], [])).1) := rfl
 rw [ev, hg]
 split
 ·have e0 : (yba (ybp r x.cm (ybb p x.E)) (ybp f y.cm (ybb p y.E))) = yba (vw r x p) (vw f y p) := rfl
  rw [e0]
  generalize (yba (vw r x p) (vw f y p)).1 = R at *
  unfold kept
  split
  ·refine ⟨.inr ⟨rfl, rfl, rfl, rfl⟩, fun k _ => ?_, fun h h' => h h'⟩
   show upT R.kn r _ k = _
   unfold upT
   split
   ·next q => rw [q, hk]
   ·rfl
  ·next hn =>
   simp only [Bool.or_eq_true, decide_eq_true_eq, not_or] at hn
   refine ⟨.inl ⟨by simp [ybp], hn.1⟩, fun k hk' => ?_, fun _ _ _ _ => rfl⟩
   have : eqT R.kn (yad x.cm y.cm) = true := by simpa using hn.2
   exact (ynw this k hk').symm
 ·next hu =>
  have hne : ∀ E : yav, (p ∈ E.map (·.1) → False) → ybb p E = none := fun E h => by
   cases hg : ybb p E with
   |none => rfl
   |some R => exact (h (List.mem_map.2 ⟨_, yeb hg, rfl⟩)).elim
  have e1 := hne x.E (fun h => hu ((u2 p).2 (.inl h)))
  have e2 := hne y.E (fun h => hu ((u2 p).2 (.inr h)))
  have v1 : vw r x p = ⟨⟨#[]⟩, 0, 0, fun _ => 0, x.cm⟩ := by unfold vw; rw [e1]; rfl
  have v2 : vw f y p = ⟨⟨#[]⟩, 0, 0, fun _ => 0, y.cm⟩ := by unfold vw; rw [e2]; rfl
  have pv : (yba (vw r x p) (vw f y p)).1 = ⟨⟨#[]⟩, 0, 0, fun _ => 0, yad x.cm y.cm⟩ := by
   rw [v1, v2]
   simp [yba, yhd, ydm]
  have e3 : ybb p ([] : yav) = none := hne [] (by simp)
  show ynm (ybp r (yad x.cm y.cm) (ybb p [])) _ ∧ (∀ k < 6, (ybp r (yad x.cm y.cm) (ybb p [])).kn k = _) ∧ _
  rw [pv, e3]
  exact ⟨.inr ⟨rfl, rfl, rfl, rfl⟩, fun _ _ => rfl, fun _ _ _ _ => rfl⟩
theorem pull00 : ybv yct yct = (yct, 0) := by
 simp [ybv, yap, yct, yaa]
def ykp (G : Gst) (a b : Nat) : Gst := ⟨G.c, G.ps, fun i q => if i = a then (ybv (G.pa a q) (G.pa b q)).1 else G.pa i q⟩
theorem HG.pullAll (h : HG n S G H) {a b : Nat} (ha : a < n) (hb : b < n) (ho : (plR a (S.getD a rs0) b (S.getD b rs0)).1 = 0) : HG n (S.set a (plR a (S.getD a rs0) b (S.getD b rs0)).2.1) (ykp G a b) H := by
 have n6 := h.n6
 unfold plR at ho ⊢
 split at ho
 ·simp at ho
 ·next hc =>
  rw [if_neg hc]
  clear ho hc
  show HG n (S.set a ⟨yad (S.getD a rs0).cm (S.getD b rs0).cm, (yhx a (S.getD a rs0).cm (S.getD a rs0).E b (S.getD b rs0).cm (S.getD b rs0).E).1⟩) _ H
  have hE := h.ris a ha
  have gc : ∀ k < n, yad (S.getD a rs0).cm (S.getD b rs0).cm k ≤ CS S k := fun k hk => by
   rw [ybk (h.lo a ha k)]
   have := h.hc a ha k hk
   have := h.hc b hb k hk
   omega
  have ga : yad (S.getD a rs0).cm (S.getD b rs0).cm a = CS S a := by
   rw [ybk (h.lo a ha a)]
   have := h.hc b hb a ha
   have : (S.getD a rs0).cm a = CS S a := rfl
   omega
  have hv := fun p => vw_all (y := S.getD b rs0) (r := a) (f := b) hE p (by rw [h.known ha hb p, ga])
  have hpl := fun p => yoq (h.he p) (h.rg a ha p) (h.rg b hb p) (h.ver p a ha b hb)
  have ea : ∀ q, (ykp G a b).pa a q = (ybv (G.pa a q) (G.pa b q)).1 := fun q => by show (if a = a then _ else _) = _; rw [if_pos rfl]
  refine h.set ha (ysy _ _ List.Pairwise.nil) (fun k => (yea _ _ _).1) (by show CS S a ≤ yad _ _ a; rw [ga]; exact Int.le_refl _) (fun k hk _ => gc k hk) (fun i hi => ?_) (fun _ _ he => he) (fun _ _ he => .inl he) (fun i hi q => by show (if i = a then _ else _) = _; rw [if_neg hi]) (fun q k hk hkr => ?_) (fun q => ?_) (fun q hb' => ?_) (fun x hx => ?_) (fun q hq => hq) (fun i q hq => ?_) h.nd h.okp
  ·show G.c i = _
   split
   ·next z => rw [z, h.cnt a ha]; exact ga.symm
   ·rfl
  ·rw [(hv q).2.1 k (by omega)]
   exact h.knle ha hb q k hk
  ·rw [ea]
   have g1 := (hpl q).2.1
   exact g1.congr (h.he q) (hv q).1 ((hv q).2.2 (fun nb k hk => g1.chz nb k hk)) (hv q).2.1
  ·refine .inl ?_
   rw [ea]
   have v1 := (hv q).1
   have b1 := v1.bn.1 hb'
   rcases v1 with y | y
   ·exact absurd hb' y.1
   ·rcases (hpl q).2.2 with q2 | q2 | q2
    ·exact ⟨a, ha, by rw [y.2.1, q2.2.1], by rw [y.2.2.1, q2.1], fun k _ => by rw [y.2.2.2, q2.2.2.1], fun e => by rw [q2.2.2.2]⟩
    ·exact ⟨b, hb, by rw [y.2.1, q2.2.1], by rw [y.2.2.1, q2.1], fun k _ => by rw [y.2.2.2, q2.2.2.1], fun e => by rw [q2.2.2.2]⟩
    ·exact absurd b1 q2
  ·have hE' : ycm ((S.getD a rs0).E.map (·.1)) := by
    unfold ycm
    rw [List.pairwise_map]
    exact hE
   obtain ⟨u1, u2⟩ := yfl ((S.getD b rs0).E.map (·.1)) _ hE'
   have hg := get_fold (s := a) (cm := (S.getD a rs0).cm) (E := (S.getD a rs0).E) (s' := b) (cm' := (S.getD b rs0).cm) (E' := (S.getD b rs0).E) x.1 _ ([], []) List.Pairwise.nil u1
   have hm := yic hx
   change (ybb x.1 ((yci ((S.getD a rs0).E.map (·.1)) ((S.getD b rs0).E.map (·.1))).foldl (yfx a (S.getD a rs0).cm (S.getD a rs0).E b (S.getD b rs0).cm (S.getD b rs0).E) ([], [])).1).isSome = true at hm
   rw [hg] at hm
   split at hm
   ·next hu =>
    rcases (u2 x.1).1 hu with z | z
    ·obtain ⟨y, hy, e⟩ := List.mem_map.1 z
     have := h.kin a ha y hy
     rw [e] at this
     exact this
    ·obtain ⟨y, hy, e⟩ := List.mem_map.1 z
     have := h.kin b hb y hy
     rw [e] at this
     exact this
   ·have : ybb x.1 ([] : yav) = none := by
     cases hg : ybb x.1 ([] : yav) with
     |none => rfl
     |some R => exact absurd (yeb hg) (by simp)
    rw [this] at hm
    cases hm
  ·show (if i = a then _ else _) = _
   have e1 := h.new a q hq
   have e2 := h.new b q hq
   rw [e1, e2, pull00, h.new i q hq]
   split <;> rfl
theorem yok {α : Type} {l m : List α} (h : l.Nodup) (hs : ∀ x ∈ l, x ∈ m) : l.length ≤ m.length := by
 induction l generalizing m with
 |nil => exact Nat.zero_le _
 |cons a l ih =>
  obtain ⟨h1, h2⟩ := List.nodup_cons.1 h
  obtain ⟨m1, m2, rfl⟩ := List.append_of_mem (hs a (List.mem_cons_self ..))
  have := ih (m := m1 ++ m2) h2 (fun x hx => by
   have q := hs x (List.mem_cons_of_mem _ hx)
   rw [List.mem_append, List.mem_cons] at q
   rcases q with q | rfl | q
   ·exact List.mem_append.2 (.inl q)
   ·exact absurd hx h1
   ·exact List.mem_append.2 (.inr q))
  simp only [List.length_cons, List.length_append] at this ⊢
  omega
theorem HG.told (h : HG n S G H) {a b : Nat} (ha : a < n) (hb : b < n) (ho : (plR a (S.getD a rs0) b (S.getD b rs0)).1 = 0) :
  (∀ q ∈ G.ps, yap (G.pa a q) (G.pa b q) ≠ 0 → (q, yap (G.pa a q) (G.pa b q)) ∈ (plR a (S.getD a rs0) b (S.getD b rs0)).2.2) ∧ (plR a (S.getD a rs0) b (S.getD b rs0)).2.2.length = (G.ps.filter (fun q => decide (yap (G.pa a q) (G.pa b q) ≠ 0))).length := by
 have n6 := h.n6
 have hl : (plR a (S.getD a rs0) b (S.getD b rs0)).2.2 = (yhx a (S.getD a rs0).cm (S.getD a rs0).E b (S.getD b rs0).cm (S.getD b rs0).E).2 := by
  unfold plR at ho ⊢
  split at ho
  ·simp at ho
  ·next hc => rw [if_neg hc]
 have hE' : ycm ((S.getD a rs0).E.map (·.1)) := by
  unfold ycm
  rw [List.pairwise_map]
  exact h.ris a ha
 obtain ⟨u1, u2⟩ := yfl ((S.getD b rs0).E.map (·.1)) _ hE'
 have ht : (yhx a (S.getD a rs0).cm (S.getD a rs0).E b (S.getD b rs0).cm (S.getD b rs0).E).2 = ((yci ((S.getD a rs0).E.map (·.1)) ((S.getD b rs0).E.map (·.1))).map (toldP a (S.getD a rs0).cm (S.getD a rs0).E b (S.getD b rs0).cm (S.getD b rs0).E)).flatten := by
  show ((yci _ _).foldl (yfx a (S.getD a rs0).cm (S.getD a rs0).E b (S.getD b rs0).cm (S.getD b rs0).E) ([], [])).2 = _
  rw [told_fold, List.nil_append]
 have hd : ∀ q, yap (G.pa a q) (G.pa b q) = (yba (vw a (S.getD a rs0) q) (vw b (S.getD b rs0) q)).2 := fun q => by
  rw [← yll]
  exact (yoq (h.he q) (h.rg a ha q) (h.rg b hb q) (h.ver q a ha b hb)).1
 have hU : ∀ q, q ∈ yci ((S.getD a rs0).E.map (·.1)) ((S.getD b rs0).E.map (·.1)) → q ∈ G.ps := fun q hq => by
  rcases (u2 q).1 hq with z | z
  ·obtain ⟨y, hy, e⟩ := List.mem_map.1 z
   rw [← e]; exact h.kin a ha y hy
  ·obtain ⟨y, hy, e⟩ := List.mem_map.1 z
   rw [← e]; exact h.kin b hb y hy
 have hnU : ∀ q, yap (G.pa a q) (G.pa b q) ≠ 0 → q ∈ yci ((S.getD a rs0).E.map (·.1)) ((S.getD b rs0).E.map (·.1)) := fun q hq => by
  refine Classical.byContradiction fun hu => hq ?_
  have hne : ∀ E : yav, (q ∈ E.map (·.1) → False) → ybb q E = none := fun E h => by
   cases hg : ybb q E with
   |none => rfl
   |some R => exact (h (List.mem_map.2 ⟨_, yeb hg, rfl⟩)).elim
  have e1 := hne _ (fun h => hu ((u2 q).2 (.inl h)))
  have e2 := hne _ (fun h => hu ((u2 q).2 (.inr h)))
  rw [hd]
  unfold vw
  rw [e1, e2]
  simp [yba, yhd, ydm, ybp]
 generalize yci ((S.getD a rs0).E.map (·.1)) ((S.getD b rs0).E.map (·.1)) = U at *
 have el : (U.map (toldP a (S.getD a rs0).cm (S.getD a rs0).E b (S.getD b rs0).cm (S.getD b rs0).E)).flatten = (U.filter (fun q => decide (yap (G.pa a q) (G.pa b q) ≠ 0))).map (fun q => (q, yap (G.pa a q) (G.pa b q))) := by
  clear hU hnU u1 u2 ht hl
  induction U with
  |nil => rfl
  |cons q U ih =>
   rw [List.map_cons, List.flatten_cons, ih, List.filter_cons]
   have e : toldP a (S.getD a rs0).cm (S.getD a rs0).E b (S.getD b rs0).cm (S.getD b rs0).E q = if yap (G.pa a q) (G.pa b q) = 0 then [] else [(q, yap (G.pa a q) (G.pa b q))] := by
    rw [hd]; rfl
   rw [e]
   by_cases z : yap (G.pa a q) (G.pa b q) = 0
   ·rw [if_pos z, if_neg (by simp [z])]; rfl
   ·rw [if_neg z, if_pos (by simpa using z)]; rfl
 rw [hl, ht, el]
 refine ⟨fun q hq hz => List.mem_map.2 ⟨q, List.mem_filter.2 ⟨hnU q hz, by simpa using hz⟩, rfl⟩, ?_⟩
 rw [List.length_map]
 have ndU : U.Nodup := by
  unfold List.Nodup
  refine u1.imp ?_
  intro x y hxy e
  rw [e, ybt] at hxy
  cases hxy
 apply Nat.le_antisymm
 ·apply yok (ndU.filter _)
  intro x hx
  obtain ⟨z1, z2⟩ := List.mem_filter.1 hx
  exact List.mem_filter.2 ⟨hU x z1, z2⟩
 ·apply yok (h.nd.filter _)
  intro x hx
  obtain ⟨z1, z2⟩ := List.mem_filter.1 hx
  exact List.mem_filter.2 ⟨hnU x (by simpa using z2), z2⟩
theorem HG.read (h : HG n S G H) {a : Nat} (ha : a < n) (p : ByteArray) : rdR a (S.getD a rs0) p = ((G.pa a p).text, if (G.pa a p).there = true then 0 else 4) := by
 have hv := h.rg a ha p
 have e : rdR a (S.getD a rs0) p = if (decide (0 < (vw a (S.getD a rs0) p).bn)) = true then ((vw a (S.getD a rs0) p).text, 0) else (⟨#[]⟩, 4) := rfl
 rw [e]
 generalize vw a (S.getD a rs0) p = v at *
 rw [hv.text, hv.there]
 by_cases z : 0 < v.bn
 ·rw [if_pos (decide_eq_true z), if_pos z, if_pos (decide_eq_true z)]
 ·rw [if_neg (by simpa using z), if_neg z, if_neg (by simpa using z)]
theorem HG.zero (n : Nat) (h6 : n ≤ 6) : HG n (List.replicate n ⟨fun _ => 0, []⟩) gst0 (fun _ _ => False) := by
 have e : ∀ i, (List.replicate n (⟨fun _ => 0, []⟩ : RS)).getD i rs0 = rs0 := fun i => by
  rw [List.getD_eq_getElem?_getD, List.getElem?_replicate]
  split <;> rfl
 have g : ∀ p, ybb p ([] : yav) = none := fun p => by
  cases hg : ybb p ([] : yav) with
  |none => rfl
  |some R => exact absurd (yeb hg) (by simp)
 have v : ∀ i p, vw i rs0 p = ⟨⟨#[]⟩, 0, 0, fun _ => 0, fun _ => 0⟩ := fun i p => by unfold vw rs0; rw [g]; rfl
 have c : ∀ i, CS (List.replicate n (⟨fun _ => 0, []⟩ : RS)) i = 0 := fun i => by unfold CS; rw [e]; rfl
 refine ⟨by simp, h6, fun i _ => by rw [e]; exact List.Pairwise.nil, fun i _ k => by rw [e]; exact Int.le_refl _, fun i _ k _ => by rw [e, c]; exact Int.le_refl _, fun i _ => by rw [c]; rfl, fun _ _ q => q.elim, fun i _ p k _ => by rw [e, v, c]; exact Int.le_refl _, fun i _ p => ?_, fun p i _ j _ hb => ?_, fun i _ x hx => ?_, fun _ _ _ => rfl, List.nodup_nil, fun p hp => by cases hp⟩
 ·rw [e, v]
  refine ⟨rfl, rfl, fun q => absurd q (by simp), fun e he => absurd he (List.not_mem_nil), fun k _ => .inl rfl, fun _ => rfl, fun e => ?_, fun _ _ => Int.le_refl _, List.nodup_nil, List.nodup_nil⟩
  constructor
  ·intro q; cases q
  ·rintro ⟨q, _⟩; exact q.elim
 ·rw [e, v] at hb
  exact absurd hb (by simp)
 ·rw [e] at hx
  cases hx
end
end Go.Proofs.YtaelaldmibgibaaGreat

namespace Go.Proofs.YtaelaldmibgibaaGreat
open Go.RowKit Go.Sim
open Classical
theorem Nt.away {w w' : World} {nb pb : Nat} {L : List (Nat × Nat)} {S : List RS} {F : Nat → Prop} (h : Nt w nb pb L S) (hf : Fr F w w') (h1 : ¬ F nb) (h2 : ¬ F pb) (h3 : ∀ x ∈ L, ¬ F x.1 ∧ ¬ F x.2) : Nt w' nb pb L S := by
 refine ⟨?_, fun j y s hj hs => ?_, Nat.lt_of_lt_of_le h.nlt hf.size, Nat.lt_of_lt_of_le h.plt hf.size, h.apart, h.pbk.imp fun cur hc => (hf.block pb h.plt h2).trans hc⟩
 ·obtain ⟨cap, hc⟩ := h.net.blk
  refine ⟨⟨cap, by rw [hf.block nb h.nlt h1]; exact hc⟩, h.net.len, fun r b hr => ?_, h.net.n6⟩
  rw [World.cell?_of_block (w := w) (hf.block pb h.plt h2)]
  exact h.net.row r b hr
 ·have q := h.rep j y s hj hs
  have hm := h3 y (List.mem_of_getElem? hj)
  exact q.keep (hf.block _ q.rep.lt hm.1) (hf.block _ q.own.lt hm.2)
def KpH (K : Nat → Prop) (w w' : World) : Prop := ∀ k, K k → w'.heap[k]? = w.heap[k]?
structure Hm (w0 w : World) (nb gb n : Nat) (S : List RS) (G : Gst) (K : Nat → Prop) : Prop where
 ex : ∃ pb L ρ D, Nt w nb pb L S ∧ w0.heap.size ≤ pb ∧ (∀ x ∈ L, w0.heap.size ≤ x.1 ∧ w0.heap.size ≤ x.2) ∧ Gh w0.heap.size w gb n ρ G D (fun _ => G.ps) ∧ ρ nb = 0 ∧ ρ pb = 0 ∧ (∀ x ∈ L, ρ x.1 = 0 ∧ ρ x.2 = 0) ∧ ∀ k, K k → k < w.heap.size ∧ k ≠ nb ∧ k ≠ pb ∧ (∀ x ∈ L, k ≠ x.1 ∧ k ≠ x.2) ∧ ρ k = 0
 nge : w0.heap.size ≤ nb
 bel : Below w0.heap.size w0 w
 fix : ybf w
section
variable {w0 w w' : World} {nb gb n : Nat} {S S' : List RS} {G G' : Gst} {K : Nat → Prop}
def HmR (w0 w : World) (nb gb n : Nat) (S : List RS) (G : Gst) (K : Nat → Prop) (rv : Value) : Prop := ∃ pb L ρ D, Nt w nb pb L S ∧ w0.heap.size ≤ pb ∧ (∀ x ∈ L, w0.heap.size ≤ x.1 ∧ w0.heap.size ≤ x.2) ∧ Gh w0.heap.size w gb n ρ G D (fun _ => G.ps) ∧ ρ nb = 0 ∧ ρ pb = 0 ∧ (∀ x ∈ L, ρ x.1 = 0 ∧ ρ x.2 = 0) ∧ (∀ k, K k → k < w.heap.size ∧ k ≠ nb ∧ k ≠ pb ∧ (∀ x ∈ L, k ≠ x.1 ∧ k ≠ x.2) ∧ ρ k = 0) ∧ ∀ k, rv.ownBlock = some k → ρ k = 0
theorem Hm.stepR (_h : Hm w0 w nb gb n S G K) {pb : Nat} {L L' : List (Nat × Nat)} {ρ : Nat → Nat} {D : GD} (h0 : w0.heap.size ≤ w.heap.size) (h1 : w0.heap.size ≤ pb) (h2 : ∀ x ∈ L, w0.heap.size ≤ x.1 ∧ w0.heap.size ≤ x.2) (hG : Gh w0.heap.size w gb n ρ G D (fun _ => G.ps)) (r1 : ρ nb = 0) (r2 : ρ pb = 0) (r3 : ∀ x ∈ L, ρ x.1 = 0 ∧ ρ x.2 = 0) (r5 : ∀ k, K k → k < w.heap.size ∧ k ≠ nb ∧ k ≠ pb ∧ (∀ x ∈ L, k ≠ x.1 ∧ k ≠ x.2) ∧ ρ k = 0)
  (hf : Fr (fun k => k = pb ∨ ∃ x ∈ L, k = x.1 ∨ k = x.2) w w') (hN' : Nt w' nb pb L' S') (hL : ∀ x ∈ L', x ∈ L ∨ (w.heap.size ≤ x.1 ∧ w.heap.size ≤ x.2)) {rv : Value} (hr : ∀ k, rv.ownBlock = some k → w.heap.size ≤ k) : HmR w0 w' nb gb n S' G K rv := by
 have ap : ∀ k, ρ k ≠ 0 → ¬ (k = pb ∨ ∃ x ∈ L, k = x.1 ∨ k = x.2) := by
  rintro k hk (rfl | ⟨x, hx, rfl | rfl⟩)
  ·exact hk r2
  ·exact hk (r3 x hx).1
  ·exact hk (r3 x hx).2
 have nw : ∀ k, w.heap.size ≤ k → ρ k = 0 := fun k hk => by
  rcases Nat.eq_zero_or_pos (ρ k) with y | y
  ·exact y
  ·have := hG.lt k (by omega); omega
 have hK : ∀ k, K k → k < w'.heap.size ∧ k ≠ nb ∧ k ≠ pb ∧ (∀ x ∈ L', k ≠ x.1 ∧ k ≠ x.2) ∧ ρ k = 0 := fun k hk => by
  obtain ⟨s1, s2, s3, s4, s5⟩ := r5 k hk
  refine ⟨Nat.lt_of_lt_of_le s1 hf.size, s2, s3, fun x hx => ?_, s5⟩
  rcases hL x hx with q | q
  ·exact s4 x q
  ·omega
 refine ⟨pb, L', ρ, D, hN', h1, fun x hx => ?_, hG.fr hf ap, r1, r2, fun x hx => ?_, hK, fun k e => nw k (hr k e)⟩
 ·rcases hL x hx with q | q
  ·exact h2 x q
  ·omega
 ·rcases hL x hx with q | q
  ·exact r3 x q
  ·exact ⟨nw _ q.1, nw _ q.2⟩
theorem Hm.step (h : Hm w0 w nb gb n S G K) {pb : Nat} {L L' : List (Nat × Nat)} {ρ : Nat → Nat} {D : GD} (h1 : w0.heap.size ≤ pb) (h2 : ∀ x ∈ L, w0.heap.size ≤ x.1 ∧ w0.heap.size ≤ x.2) (hG : Gh w0.heap.size w gb n ρ G D (fun _ => G.ps)) (r1 : ρ nb = 0) (r2 : ρ pb = 0) (r3 : ∀ x ∈ L, ρ x.1 = 0 ∧ ρ x.2 = 0) (r5 : ∀ k, K k → k < w.heap.size ∧ k ≠ nb ∧ k ≠ pb ∧ (∀ x ∈ L, k ≠ x.1 ∧ k ≠ x.2) ∧ ρ k = 0)
  (hf : Fr (fun k => k = pb ∨ ∃ x ∈ L, k = x.1 ∨ k = x.2) w w') (hN' : Nt w' nb pb L' S') (hL : ∀ x ∈ L', x ∈ L ∨ (w.heap.size ≤ x.1 ∧ w.heap.size ≤ x.2)) (hx : ybf w') : Hm w0 w' nb gb n S' G K ∧ KpH K w w' := by
 have hsz := h.bel.size
 have ap : ∀ k, ρ k ≠ 0 → ¬ (k = pb ∨ ∃ x ∈ L, k = x.1 ∨ k = x.2) := by
  rintro k hk (rfl | ⟨x, hx, rfl | rfl⟩)
  ·exact hk r2
  ·exact hk (r3 x hx).1
  ·exact hk (r3 x hx).2
 have nw : ∀ k, w.heap.size ≤ k → ρ k = 0 := fun k hk => by
  rcases Nat.eq_zero_or_pos (ρ k) with y | y
  ·exact y
  ·have := hG.lt k (by omega); omega
 have hK : ∀ k, K k → k < w'.heap.size ∧ k ≠ nb ∧ k ≠ pb ∧ (∀ x ∈ L', k ≠ x.1 ∧ k ≠ x.2) ∧ ρ k = 0 := fun k hk => by
  obtain ⟨s1, s2, s3, s4, s5⟩ := r5 k hk
  refine ⟨Nat.lt_of_lt_of_le s1 hf.size, s2, s3, fun x hx => ?_, s5⟩
  rcases hL x hx with q | q
  ·exact s4 x q
  ·omega
 have hKp : KpH K w w' := fun k hk => by
  obtain ⟨s1, s2, s3, s4, s5⟩ := r5 k hk
  refine hf.block k s1 ?_
  rintro (e | ⟨x, hx, e | e⟩)
  ·exact s3 e
  ·exact (s4 x hx).1 e
  ·exact (s4 x hx).2 e
 refine ⟨⟨⟨pb, L', ρ, D, hN', h1, fun x hx => ?_, hG.fr hf ap, r1, r2, fun x hx => ?_, hK⟩, h.nge, ?_, hx⟩, hKp⟩
 ·rcases hL x hx with q | q
  ·exact h2 x q
  ·omega
 ·rcases hL x hx with q | q
  ·exact r3 x q
  ·exact ⟨nw _ q.1, nw _ q.2⟩
 ·refine ⟨hf.os.trans h.bel.os, hf.tape.trans h.bel.tape, hf.output.trans h.bel.output, Nat.le_trans hsz hf.size, fun k hk => (hf.block k (by omega) ?_).trans (h.bel.block k hk)⟩
  rintro (rfl | ⟨x, hx, e⟩)
  ·omega
  ·have := h2 x hx; omega
theorem Hm.more (h : Hm w0 w nb gb n S G K) (hb : Below w.heap.size w w') (hx : ybf w') : Hm w0 w' nb gb n S G K ∧ KpH K w w' := by
 obtain ⟨pb, L, ρ, D, hN, h1, h2, hG, r1, r2, r3, r5⟩ := h.ex
 exact h.step h1 h2 hG r1 r2 r3 r5 (Fr.of_below hb) (hN.below hb) (fun x hx => .inl hx) hx
theorem Hm.ghost (h : Hm w0 w nb gb n S G K) {pb : Nat} {L : List (Nat × Nat)} {ρ ρ' : Nat → Nat} {D D' : GD} (hN : Nt w nb pb L S) (h1 : w0.heap.size ≤ pb) (h2 : ∀ x ∈ L, w0.heap.size ≤ x.1 ∧ w0.heap.size ≤ x.2) (hG : Gh w0.heap.size w gb n ρ G D (fun _ => G.ps)) (r1 : ρ nb = 0) (r2 : ρ pb = 0) (r3 : ∀ x ∈ L, ρ x.1 = 0 ∧ ρ x.2 = 0) (r5 : ∀ k, K k → k < w.heap.size ∧ k ≠ nb ∧ k ≠ pb ∧ (∀ x ∈ L, k ≠ x.1 ∧ k ≠ x.2) ∧ ρ k = 0)
  (hP : Gp w0.heap.size w w' gb n ρ G' D' (fun _ => G'.ps) ρ') (hx : ybf w') : Hm w0 w' nb gb n S G' K ∧ KpH K w w' := by
 have hsz := h.bel.size
 have zz : ∀ k, k < w.heap.size → ρ k = 0 → ρ' k = 0 := fun k hk h0 => by
  rcases Nat.eq_zero_or_pos (ρ' k) with y | y
  ·exact y
  ·rcases hP.new k (by omega) with u | u
   ·exact absurd h0 u
   ·omega
 have hLB : ∀ x ∈ L, x.1 < w.heap.size ∧ x.2 < w.heap.size := fun z hz => by
  obtain ⟨i, hi⟩ := List.getElem?_of_mem hz
  have hil : i < S.length := by have := (List.getElem?_eq_some_iff.1 hi).1; have := hN.len; omega
  have q := hN.rep i z _ hi (List.getElem?_eq_getElem hil)
  exact ⟨q.rep.lt, q.own.lt⟩
 refine ⟨⟨⟨pb, L, ρ', D', hN.away hP.fr (by simp [r1]) (by simp [r2]) (fun x hx => by simp [(r3 x hx).1, (r3 x hx).2]), h1, h2, hP.gh, zz _ hN.nlt r1, zz _ hN.plt r2, fun x hx => ⟨zz _ (hLB x hx).1 (r3 x hx).1, zz _ (hLB x hx).2 (r3 x hx).2⟩, fun k hk => ⟨Nat.lt_of_lt_of_le (r5 k hk).1 hP.fr.size, (r5 k hk).2.1, (r5 k hk).2.2.1, (r5 k hk).2.2.2.1, zz k (r5 k hk).1 (r5 k hk).2.2.2.2⟩⟩, h.nge, ?_, hx⟩, fun k hk => hP.fr.block k (r5 k hk).1 (by simp [(r5 k hk).2.2.2.2])⟩
 refine ⟨hP.fr.os.trans h.bel.os, hP.fr.tape.trans h.bel.tape, hP.fr.output.trans h.bel.output, Nat.le_trans hsz hP.fr.size, fun k hk => (hP.fr.block k (by omega) (fun e => ?_)).trans (h.bel.block k hk)⟩
 have := hG.lo k e
 omega
end
structure Hh (w0 w : World) (nb gb n : Nat) (S : List RS) (G : Gst) (K : Nat → Prop) (M : Nat) : Prop where
 hm : Hm w0 w nb gb n S G K
 hg : ∃ H, HG n S G H
 ps : G.ps.length ≤ M
 ct : ∀ i < n, CS S i ≤ M
theorem ev_len {l : List Ev} {n M : Nat} (h : l.Nodup) (hb : ∀ e ∈ l, e.1 < n ∧ 0 < e.2 ∧ e.2 ≤ (M : Int)) : l.length ≤ n * M := by
 have h1 : (l.map fun e => e.1 * M + (e.2 - 1).toNat).Nodup := by
  rw [List.Nodup, List.pairwise_map]
  refine List.Pairwise.imp_of_mem ?_ h
  intro a b ha hb' hne e
  have qa := hb a ha
  have qb := hb b hb'
  apply hne
  have e1 : (a.2 - 1).toNat < M := by omega
  have e2 : (b.2 - 1).toNat < M := by omega
  have ed : a.1 = b.1 := by
   have x1 : (a.1 * M + (a.2 - 1).toNat) / M = a.1 := by
    rw [Nat.mul_comm, Nat.mul_add_div (by omega), Nat.div_eq_of_lt e1, Nat.add_zero]
   have x2 : (b.1 * M + (b.2 - 1).toNat) / M = b.1 := by
    rw [Nat.mul_comm, Nat.mul_add_div (by omega), Nat.div_eq_of_lt e2, Nat.add_zero]
   rw [← x1, ← x2, e]
  rw [ed] at e
  exact Prod.ext ed (by omega)
 have h2 := yok (m := List.range (n * M)) h1 (fun x hx => by
  obtain ⟨e, he, rfl⟩ := List.mem_map.1 hx
  have q := hb e he
  rw [List.mem_range]
  have : (e.1 + 1) * M ≤ n * M := Nat.mul_le_mul_right _ (by omega)
  rw [Nat.add_mul] at this
  omega)
 simpa using h2
section
variable {w0 w : World} {nb gb n : Nat} {S : List RS} {G : Gst} {K : Nat → Prop} {M : Nat}
theorem Hh.evs (h : Hh w0 w nb gb n S G K M) {i : Nat} (hi : i < n) (p : ByteArray) : (G.pa i p).made.length ≤ 6 * M ∧ (G.pa i p).heard.length ≤ 6 * M := by
 obtain ⟨H, hg⟩ := h.hg
 have n6 := hg.n6
 have hv := hg.rg i hi p
 have bd : ∀ e, H p e → e.1 < n ∧ 0 < e.2 ∧ e.2 ≤ (M : Int) := fun e he => by
  obtain ⟨q1, q2, q3⟩ := hg.ev p e he
  exact ⟨q1, q2, Int.le_trans q3 (h.ct _ q1)⟩
 have q1 := ev_len hv.nd.1 (fun e he => bd e (hv.made e he).1)
 have q2 := ev_len hv.nd.2 (fun e he => bd e ((hv.heard e).1 he).1)
 have : n * M ≤ 6 * M := Nat.mul_le_mul_right _ n6
 omega
theorem Hh.recs (h : Hh w0 w nb gb n S G K M) {i : Nat} (hi : i < n) : (S.getD i rs0).E.length ≤ M ∧ ∀ e ∈ (S.getD i rs0).E, e.1.size ≤ 12 := by
 obtain ⟨H, hg⟩ := h.hg
 have hr := hg.ris i hi
 have h1 : ((S.getD i rs0).E.map (·.1)).Pairwise (fun a b => slt a b = true) := by
  rw [List.pairwise_map]
  exact hr
 have q := yqh (m := G.ps) h1 (fun x hx => by obtain ⟨y, hy, rfl⟩ := List.mem_map.1 hx; exact hg.kin i hi y hy)
 rw [List.length_map] at q
 refine ⟨Nat.le_trans q h.ps, fun e he => ?_⟩
 have := hg.okp _ (hg.kin i hi e he)
 unfold yat at this
 simp at this
 omega
theorem Hh.len (h : Hh w0 w nb gb n S G K M) : S.length = n := by obtain ⟨H, hg⟩ := h.hg; exact hg.len
end
end Go.Proofs.YtaelaldmibgibaaGreat

namespace Go.Proofs.YtaelaldmibgibaaGreat
open Go.RowKit Go.Sim
open Classical
section
variable {w0 w : World} {nb gb n : Nat} {S : List RS} {G : Gst} {K : Nat → Prop} {M : Nat}
theorem okR_nat {n : Nat} {r : Int} (h : okR n r = true) : ∃ a : Nat, a < n ∧ r = (a : Int) := by
 unfold okR at h
 rw [decide_eq_true_eq] at h
 exact ⟨r.toNat, by omega, by omega⟩
theorem ysn {n : Nat} {r f : Int} (h : okP n r f = true) : ∃ a b : Nat, a < n ∧ b < n ∧ a ≠ b ∧ r = (a : Int) ∧ f = (b : Int) := by
 unfold okP at h
 simp only [Bool.and_eq_true, decide_eq_true_eq, Bool.not_eq_true', beq_eq_false_iff_ne] at h
 exact ⟨r.toNat, f.toNat, by omega, by omega, by omega, by omega, by omega⟩
theorem yel {p : ByteArray} (h : yat p = true) : p.size ≤ 12 := by
 unfold yat at h
 simp at h
 omega
theorem hn_write (h : Hh w0 w nb gb n S G K M) (hM : M ≤ 400000) (r : Int) (p t : ByteArray) (hp : p.size ≤ 1000000000000) (ht : t.size ≤ 1000000000000) :
  Calls (twin Tryz.prog pl) 10 #[.pointer (some ⟨nb, 0, none⟩), .int .i64 r, .string p, .string t] w fun e w' => ∃ (er : Int) (S' : List RS), e = .returned (.int .i64 er) ∧ Hm w0 w' nb gb n S' G K ∧ KpH K w w' ∧ ((er ≠ 0 ∧ S' = S) ∨ (er = 0 ∧ ∃ a : Nat, a < n ∧ r = (a : Int) ∧ yat p = true ∧ (wrR a (S.getD a rs0) p t).1 = 0 ∧ S' = S.set a (wrR a (S.getD a rs0) p t).2)) := by
 obtain ⟨pb, L, ρ, D, hN, h1, h2, hG, r1, r2, r3, r5⟩ := h.hm.ex
 have hl := h.len
 by_cases hk : okR n r = true ∧ yat p = true
 ·obtain ⟨a, ha, rfl⟩ := okR_nat hk.1
  have pz := yel hk.2
  by_cases hlong : 60 < t.size
  ·refine (shared.calls (by decide) h.hm.fix (ysl hN a (by omega) p t hk.2 (by omega) hlong ht) (fun e w' h => by obtain ⟨⟨er, _, e⟩, _⟩ := h; exact ⟨_, e⟩)).mono ?_
   rintro e w' ⟨⟨⟨er, hne, rfl⟩, rfl⟩, hx'⟩
   exact ⟨er, S, rfl, h.hm, fun _ _ => rfl, .inl ⟨hne, rfl⟩⟩
  ·have haL : a < L.length := by have := hN.len; omega
   have hs : S[a]? = some (S.getD a rs0) := yey (by omega)
   refine (shared.calls (by decide) h.hm.fix (ynd hN a (List.getElem?_eq_getElem haL) hs (by have := (h.recs ha).1; omega) p t hk.2 (by omega) (by omega)) (fun e w' h => ⟨_, h.1⟩)).mono ?_
   rintro e w' ⟨⟨rfl, hN', hf⟩, hx'⟩
   have hm' := h.hm.step h1 h2 hG r1 r2 r3 r5 (hf.mono fun k _ e => .inr ⟨_, List.getElem_mem haL, e⟩) hN' (fun x hx => .inl hx) hx'
   refine ⟨_, _, rfl, hm'.1, hm'.2, ?_⟩
   by_cases he : (wrR a (S.getD a rs0) p t).1 = 0
   ·exact .inr ⟨he, a, ha, rfl, hk.2, he, rfl⟩
   ·refine .inl ⟨he, ?_⟩
    have : (wrR a (S.getD a rs0) p t).2 = S.getD a rs0 := by
     unfold wrR at he ⊢
     split
     ·rfl
     ·next q => rw [if_neg q] at he; exact absurd rfl he
    rw [this]
    exact ygz hs
 ·have hno : okR S.length r = false ∨ yat p = false := by
   rw [hl]
   cases q : okR n r
   ·exact .inl rfl
   ·cases q' : yat p
    ·exact .inr rfl
    ·exact absurd ⟨q, q'⟩ hk
  refine (shared.calls (by decide) h.hm.fix (nwrite_no hN r p t (by unfold maxLen; omega) hno) (fun e w' h => by obtain ⟨⟨er, _, e⟩, _⟩ := h; exact ⟨_, e⟩)).mono ?_
  rintro e w' ⟨⟨⟨er, hne, rfl⟩, rfl⟩, hx'⟩
  exact ⟨er, S, rfl, h.hm, fun _ _ => rfl, .inl ⟨hne, rfl⟩⟩
theorem hn_remove (h : Hh w0 w nb gb n S G K M) (hM : M ≤ 400000) (r : Int) (p : ByteArray) (hp : p.size ≤ 1000000000000) :
  Calls (twin Tryz.prog pl) 21 #[.pointer (some ⟨nb, 0, none⟩), .int .i64 r, .string p] w fun e w' => ∃ (er : Int) (S' : List RS), e = .returned (.int .i64 er) ∧ Hm w0 w' nb gb n S' G K ∧ KpH K w w' ∧ ((er ≠ 0 ∧ S' = S) ∨ (er = 0 ∧ ∃ a : Nat, a < n ∧ r = (a : Int) ∧ yat p = true ∧ (rmR a (S.getD a rs0) p).1 = 0 ∧ S' = S.set a (rmR a (S.getD a rs0) p).2)) := by
 obtain ⟨pb, L, ρ, D, hN, h1, h2, hG, r1, r2, r3, r5⟩ := h.hm.ex
 have hl := h.len
 by_cases hk : okR n r = true ∧ yat p = true
 ·obtain ⟨a, ha, rfl⟩ := okR_nat hk.1
  have pz := yel hk.2
  have haL : a < L.length := by have := hN.len; omega
  have hs : S[a]? = some (S.getD a rs0) := yey (by omega)
  refine (shared.calls (by decide) h.hm.fix (ysj hN a (List.getElem?_eq_getElem haL) hs (by have := (h.recs ha).1; omega) p hk.2 (by omega)) (fun e w' h => ⟨_, h.1⟩)).mono ?_
  rintro e w' ⟨⟨rfl, hN', hf⟩, hx'⟩
  have hm' := h.hm.step h1 h2 hG r1 r2 r3 r5 (hf.mono fun k _ e => .inr ⟨_, List.getElem_mem haL, e⟩) hN' (fun x hx => .inl hx) hx'
  refine ⟨_, _, rfl, hm'.1, hm'.2, ?_⟩
  by_cases he : (rmR a (S.getD a rs0) p).1 = 0
  ·exact .inr ⟨he, a, ha, rfl, hk.2, he, rfl⟩
  ·refine .inl ⟨he, ?_⟩
   have : (rmR a (S.getD a rs0) p).2 = S.getD a rs0 := by
    unfold rmR at he ⊢
    split
    ·rfl
    ·next q =>
     rw [if_neg q] at he
     split
     ·rfl
     ·next q' => rw [if_neg q'] at he; exact absurd rfl he
   rw [this]
   exact ygz hs
 ·have hno : okR S.length r = false ∨ yat p = false := by
   rw [hl]
   cases q : okR n r
   ·exact .inl rfl
   ·cases q' : yat p
    ·exact .inr rfl
    ·exact absurd ⟨q, q'⟩ hk
  refine (shared.calls (by decide) h.hm.fix (nremove_no hN r p (by unfold maxLen; omega) hno) (fun e w' h => by obtain ⟨⟨er, _, e⟩, _⟩ := h; exact ⟨_, e⟩)).mono ?_
  rintro e w' ⟨⟨⟨er, hne, rfl⟩, rfl⟩, hx'⟩
  exact ⟨er, S, rfl, h.hm, fun _ _ => rfl, .inl ⟨hne, rfl⟩⟩
theorem no_pair {n : Nat} {r f : Int} {p : ByteArray} (hk : ¬ (okP n r f = true ∧ yat p = true)) : okP n r f = false ∨ yat p = false := by
 cases q : okP n r f
 ·exact .inl rfl
 ·cases q' : yat p
  ·exact .inr rfl
  ·exact absurd ⟨q, q'⟩ hk
theorem hn_path (h : Hh w0 w nb gb n S G K M) (hM : M ≤ 400000) (r f : Int) (p : ByteArray) (hp : p.size ≤ 1000000000000) :
  Calls (twin Tryz.prog pl) 26 #[.pointer (some ⟨nb, 0, none⟩), .int .i64 r, .int .i64 f, .string p] w fun e w' => ∃ (wh er : Int) (S' : List RS), e = .returned (.tuple #[.int .i64 wh, .int .i64 er]) ∧ Hm w0 w' nb gb n S' G K ∧ KpH K w w' ∧ ((er ≠ 0 ∧ S' = S) ∨ (er = 0 ∧ ∃ a b : Nat, a < n ∧ b < n ∧ a ≠ b ∧ r = (a : Int) ∧ f = (b : Int) ∧ yat p = true ∧ (ppR a (S.getD a rs0) b (S.getD b rs0) p).2.1 = 0 ∧ wh = (ppR a (S.getD a rs0) b (S.getD b rs0) p).1 ∧ S' = S.set a (ppR a (S.getD a rs0) b (S.getD b rs0) p).2.2)) := by
 obtain ⟨pb, L, ρ, D, hN, h1, h2, hG, r1, r2, r3, r5⟩ := h.hm.ex
 have hl := h.len
 by_cases hk : okP n r f = true ∧ yat p = true
 ·obtain ⟨a, b, ha, hb, hab, rfl, rfl⟩ := ysn hk.1
  have pz := yel hk.2
  have haL : a < L.length := by have := hN.len; omega
  have hbL : b < L.length := by have := hN.len; omega
  have hs : S[a]? = some (S.getD a rs0) := yey (by omega)
  have hs' : S[b]? = some (S.getD b rs0) := yey (by omega)
  refine (shared.calls (by decide) h.hm.fix (npull_any hN a b hab (List.getElem?_eq_getElem haL) (List.getElem?_eq_getElem hbL) hs hs' (by have := (h.recs ha).1; omega) p hk.2 (by omega)) (fun e w' h => ⟨_, h.1⟩)).mono ?_
  rintro e w' ⟨⟨rfl, hN', hf⟩, hx'⟩
  have hm' := h.hm.step h1 h2 hG r1 r2 r3 r5 (hf.mono fun k _ e => .inr ⟨_, List.getElem_mem haL, e⟩) hN' (fun x hx => .inl hx) hx'
  refine ⟨_, _, _, rfl, hm'.1, hm'.2, ?_⟩
  by_cases he : (ppR a (S.getD a rs0) b (S.getD b rs0) p).2.1 = 0
  ·exact .inr ⟨he, a, b, ha, hb, hab, rfl, rfl, hk.2, he, rfl, rfl⟩
  ·refine .inl ⟨he, ?_⟩
   have : (ppR a (S.getD a rs0) b (S.getD b rs0) p).2.2 = S.getD a rs0 := by
    unfold ppR at he ⊢
    split
    ·rfl
    ·next q => rw [if_neg q] at he; exact absurd rfl he
   rw [this]
   exact ygz hs
 ·refine (shared.calls (by decide) h.hm.fix (npath_no hN r f p (by unfold maxLen; omega) (by rw [hl]; exact no_pair hk)) (fun e w' h => by obtain ⟨⟨er, _, e⟩, _⟩ := h; exact ⟨_, e⟩)).mono ?_
  rintro e w' ⟨⟨⟨er, hne, rfl⟩, hb⟩, hx'⟩
  exact ⟨0, er, S, rfl, (h.hm.more hb hx').1, (h.hm.more hb hx').2, .inl ⟨hne, rfl⟩⟩
theorem hn_resolve (h : Hh w0 w nb gb n S G K M) (hM : M ≤ 400000) (r f : Int) (p : ByteArray) (hp : p.size ≤ 1000000000000) (th : Bool) :
  Calls (twin Tryz.prog pl) 27 #[.pointer (some ⟨nb, 0, none⟩), .int .i64 r, .int .i64 f, .string p, .bool th] w fun e w' => ∃ (er : Int) (S' : List RS), e = .returned (.int .i64 er) ∧ Hm w0 w' nb gb n S' G K ∧ KpH K w w' ∧ ((er ≠ 0 ∧ S' = S) ∨ (er = 0 ∧ ∃ a b : Nat, a < n ∧ b < n ∧ a ≠ b ∧ r = (a : Int) ∧ f = (b : Int) ∧ yat p = true ∧ (rsR a (S.getD a rs0) b (S.getD b rs0) p th).1 = 0 ∧ S' = S.set a (rsR a (S.getD a rs0) b (S.getD b rs0) p th).2)) := by
 obtain ⟨pb, L, ρ, D, hN, h1, h2, hG, r1, r2, r3, r5⟩ := h.hm.ex
 have hl := h.len
 by_cases hk : okP n r f = true ∧ yat p = true
 ·obtain ⟨a, b, ha, hb, hab, rfl, rfl⟩ := ysn hk.1
  have pz := yel hk.2
  have haL : a < L.length := by have := hN.len; omega
  have hbL : b < L.length := by have := hN.len; omega
  have hs : S[a]? = some (S.getD a rs0) := yey (by omega)
  have hs' : S[b]? = some (S.getD b rs0) := yey (by omega)
  refine (shared.calls (by decide) h.hm.fix (yqe hN a b hab (List.getElem?_eq_getElem haL) (List.getElem?_eq_getElem hbL) hs hs' (by have := (h.recs ha).1; omega) p hk.2 (by omega) th) (fun e w' h => ⟨_, h.1⟩)).mono ?_
  rintro e w' ⟨⟨rfl, hN', hf⟩, hx'⟩
  have hm' := h.hm.step h1 h2 hG r1 r2 r3 r5 (hf.mono fun k _ e => .inr ⟨_, List.getElem_mem haL, e⟩) hN' (fun x hx => .inl hx) hx'
  refine ⟨_, _, rfl, hm'.1, hm'.2, ?_⟩
  by_cases he : (rsR a (S.getD a rs0) b (S.getD b rs0) p th).1 = 0
  ·exact .inr ⟨he, a, b, ha, hb, hab, rfl, rfl, hk.2, he, rfl⟩
  ·refine .inl ⟨he, ?_⟩
   have : (rsR a (S.getD a rs0) b (S.getD b rs0) p th).2 = S.getD a rs0 := by
    unfold rsR rsRec at he ⊢
    split
    ·rfl
    ·next q =>
     rw [if_neg q] at he
     split
     ·rfl
     ·next q' => rw [if_neg q'] at he; exact absurd rfl he
   rw [this]
   exact ygz hs
 ·refine (shared.calls (by decide) h.hm.fix (ysk hN r f p th (by unfold maxLen; omega) (by rw [hl]; exact no_pair hk)) (fun e w' h => by obtain ⟨⟨er, _, e⟩, _⟩ := h; exact ⟨_, e⟩)).mono ?_
  rintro e w' ⟨⟨⟨er, hne, rfl⟩, hb⟩, hx'⟩
  exact ⟨er, S, rfl, (h.hm.more hb hx').1, (h.hm.more hb hx').2, .inl ⟨hne, rfl⟩⟩
theorem hn_pull (h : Hh w0 w nb gb n S G K M) (hM : M ≤ 400000) (r f : Int) :
  Calls (twin Tryz.prog pl) 22 #[.pointer (some ⟨nb, 0, none⟩), .int .i64 r, .int .i64 f] w fun e w' => ∃ (rv : Value) (er : Int) (S' : List RS), e = .returned (.tuple #[rv, .int .i64 er]) ∧ Hm w0 w' nb gb n S' G K ∧ KpH K w w' ∧ ((er ≠ 0 ∧ S' = S) ∨ (er = 0 ∧ ∃ a b : Nat, a < n ∧ b < n ∧ a ≠ b ∧ r = (a : Int) ∧ f = (b : Int) ∧ (plR a (S.getD a rs0) b (S.getD b rs0)).1 = 0 ∧ S' = S.set a (plR a (S.getD a rs0) b (S.getD b rs0)).2.1 ∧ w'.ownsRow w.heap.size 66 3 rv (plR a (S.getD a rs0) b (S.getD b rs0)).2.2.length (chv a (plR a (S.getD a rs0) b (S.getD b rs0)).2.2) ∧ HmR w0 w' nb gb n S' G K rv)) := by
 obtain ⟨pb, L, ρ, D, hN, h1, h2, hG, r1, r2, r3, r5⟩ := h.hm.ex
 have hl := h.len
 cases hk : okP n r f
 ·refine (tame_on (by decide) h.hm.fix (npull_no hN h.hm.fix r f (by rw [hl]; exact hk)) (fun e w' h => by obtain ⟨r1, r2, e, _⟩ := h; exact ⟨_, e⟩)).mono ?_
  rintro e w' ⟨⟨r1, r2, rfl, rfl, rfl, hb⟩, hx'⟩
  exact ⟨_, 1, S, rfl, (h.hm.more hb hx').1, (h.hm.more hb hx').2, .inl ⟨by decide, rfl⟩⟩
 ·obtain ⟨a, b, ha, hb, hab, rfl, rfl⟩ := ysn hk
  have haL : a < L.length := by have := hN.len; omega
  have hbL : b < L.length := by have := hN.len; omega
  have hs : S[a]? = some (S.getD a rs0) := yey (by omega)
  have hs' : S[b]? = some (S.getD b rs0) := yey (by omega)
  have q1 := h.recs ha
  have q2 := h.recs hb
  refine (tame_on (by decide) h.hm.fix (npulls hN h.hm.fix a b hab (List.getElem?_eq_getElem haL) (List.getElem?_eq_getElem hbL) hs hs' (by omega) (fun e he => by have := q1.2 e he; omega) (fun e he => by have := q2.2 e he; omega)) (fun e w' h => by obtain ⟨rv, r2, e, _⟩ := h; exact ⟨_, e⟩)).mono ?_
  rintro e w' ⟨⟨rv, r2', rfl, rfl, L', hN', hrow, hf, hL⟩, hx'⟩
  have hm' := h.hm.step h1 h2 hG r1 r2 r3 r5 (hf.mono fun k _ e => .inl e) hN' hL hx'
  refine ⟨rv, _, _, rfl, hm'.1, hm'.2, ?_⟩
  by_cases he : (plR a (S.getD a rs0) b (S.getD b rs0)).1 = 0
  ·exact .inr ⟨he, a, b, ha, hb, hab, rfl, rfl, he, rfl, hrow, h.hm.stepR h.hm.bel.size h1 h2 hG r1 r2 r3 r5 (hf.mono fun k _ e => .inl e) hN' hL (fun k e => (World.ownsRow.lt hrow k e).1)⟩
  ·refine .inl ⟨he, ?_⟩
   have : (plR a (S.getD a rs0) b (S.getD b rs0)).2.1 = S.getD a rs0 := by
    unfold plR at he ⊢
    split
    ·rfl
    ·next q => rw [if_neg q] at he; exact absurd rfl he
   rw [this]
   exact ygz hs
end
end Go.Proofs.YtaelaldmibgibaaGreat

namespace Go.Proofs.YtaelaldmibgibaaGreat
open Go.RowKit Go.Sim
open Classical
section
variable {w0 w w1 : World} {nb gb n : Nat} {S S1 : List RS} {G : Gst} {K K' : Nat → Prop} {M : Nat}
theorem Hh.asks (h : Hh w0 w nb gb n S G K M) (hM : M ≤ 400000) (p : ByteArray) : (p ∉ G.ps → ∀ r, G.pa r p = yct) ∧ G.ps.length ≤ 100000000 ∧ G.ps.Nodup ∧ ∀ a < n, 0 ≤ G.c a ∧ G.c a ≤ 1000000000000 := by
 obtain ⟨H, hg⟩ := h.hg
 refine ⟨fun hp r => hg.new r p hp, by have := h.ps; omega, hg.nd, fun a ha => ?_⟩
 have h1 := hg.cnt a ha
 have h2 : 0 ≤ CS S a := hg.lo a ha a
 have h3 := h.ct a ha
 omega
theorem hg_write (h : Hh w0 w nb gb n S G K M) (hM : M ≤ 400000) (hm : Hm w0 w1 nb gb n S1 G K) {a : Nat} (ha : a < n) (p t : ByteArray) :
  Calls (twin Tryz.prog pl) 11 #[.pointer (some ⟨gb, 0, none⟩), .int .i64 a, .string p, .string t] w1 fun e w' => e = .returned (.tuple #[]) ∧ Hm w0 w' nb gb n S1 (bump G a p (wrP (G.pa a p) (a, G.c a + 1) t)) K ∧ KpH K w1 w' := by
 obtain ⟨pb, L, ρ, D, hN, h1, h2, hG, r1, r2, r3, r5⟩ := hm.ex
 obtain ⟨q0, q1, q2, q3⟩ := h.asks hM p
 have q4 := h.evs ha p
 have C : Calls Tryz.prog 11 #[.pointer (some ⟨gb, 0, none⟩), .int .i64 a, .string p, .string t] w1 fun e w' => e = .returned (.tuple #[]) ∧ ∃ ρ' D', Gp w0.heap.size w1 w' gb n ρ ⟨fun i => if i = a then G.c a + 1 else G.c i, yan p G.ps, ybn G.pa a p (wrP (G.pa a p) (a, G.c a + 1) t)⟩ D' (fun _ => yan p G.ps) ρ' := by
  cases hth : (G.pa a p).there
  ·exact gWrite_new hG hm.bel.size ha p t q0 q1 q2 (q3 a ha) (by omega) (by omega) hth
  ·exact gWrite_old hG hm.bel.size ha p t q0 q1 q2 (q3 a ha) (by omega) (by omega) hth
 refine (shared.calls (by decide) hm.fix C (fun e w' h => ⟨_, h.1⟩)).mono ?_
 rintro e w' ⟨⟨rfl, ρ', D', hP⟩, hx'⟩
 exact ⟨rfl, hm.ghost hN h1 h2 hG r1 r2 r3 r5 hP hx'⟩
theorem hg_remove (h : Hh w0 w nb gb n S G K M) (hM : M ≤ 400000) (hm : Hm w0 w1 nb gb n S1 G K) {a : Nat} (ha : a < n) (p : ByteArray) :
  Calls (twin Tryz.prog pl) 33 #[.pointer (some ⟨gb, 0, none⟩), .int .i64 a, .string p] w1 fun e w' => e = .returned (.tuple #[]) ∧ Hm w0 w' nb gb n S1 (bump G a p (rmP (G.pa a p) (a, G.c a + 1))) K ∧ KpH K w1 w' := by
 obtain ⟨pb, L, ρ, D, hN, h1, h2, hG, r1, r2, r3, r5⟩ := hm.ex
 obtain ⟨q0, q1, q2, q3⟩ := h.asks hM p
 have q4 := h.evs ha p
 refine (shared.calls (by decide) hm.fix (yry hG hm.bel.size ha p q0 q1 q2 (q3 a ha) (by omega)) (fun e w' h => ⟨_, h.1⟩)).mono ?_
 rintro e w' ⟨⟨rfl, ρ', D', hP⟩, hx'⟩
 exact ⟨rfl, hm.ghost (G' := bump G a p (rmP (G.pa a p) (a, G.c a + 1))) hN h1 h2 hG r1 r2 r3 r5 hP hx'⟩
theorem hg_pull (h : Hh w0 w nb gb n S G K M) (hM : M ≤ 400000) (hm : Hm w0 w1 nb gb n S1 G K) {a b : Nat} (ha : a < n) (hb : b < n) (p : ByteArray) :
  Calls (twin Tryz.prog pl) 34 #[.pointer (some ⟨gb, 0, none⟩), .int .i64 a, .int .i64 b, .string p] w1 fun e w' => e = .returned (.int .i64 (yap (G.pa a p) (G.pa b p))) ∧ Hm w0 w' nb gb n S1 (yoo G a b p) K ∧ KpH K w1 w' := by
 obtain ⟨pb, L, ρ, D, hN, h1, h2, hG, r1, r2, r3, r5⟩ := hm.ex
 obtain ⟨q0, q1, q2, q3⟩ := h.asks hM p
 have q4 := h.evs ha p
 have q5 := h.evs hb p
 refine (shared.calls (by decide) hm.fix (yps hG hm.bel.size ha hb p q0 q1 q2 (by omega)) (fun e w' h => ⟨_, h.1⟩)).mono ?_
 rintro e w' ⟨⟨rfl, ρ', D', hP⟩, hx'⟩
 exact ⟨rfl, hm.ghost (G' := yoo G a b p) hN h1 h2 hG r1 r2 r3 r5 hP hx'⟩
end
end Go.Proofs.YtaelaldmibgibaaGreat

namespace Go.Proofs.YtaelaldmibgibaaGreat
open Go.RowKit Go.Sim
def neCh (x y : Value) : Sem Value := binOp .neq 66 x y
theorem neChange (x y : Value) : binOp .neq 66 x y = neCh x y := rfl
theorem run_neCh (w : World) : (neCh (.agg #[.int .i64 1, .string ⟨#[102, 105, 114, 115, 116]⟩, .int .i64 1]) (.agg #[.int .i64 1, .string ⟨#[102, 105, 114, 115, 116]⟩, .int .i64 1])).run (twin Tryz.prog pl) w = .ok (.bool false) w := by kernel_rfl
@[simp] theorem q_call8 (args : Array Value) (w : World) : (callFunc 8 args).run (twin Tryz.prog pl) w = .ok (.enter 8 args) w := yco (by decide) args w
@[simp] theorem q_call10 (args : Array Value) (w : World) : (callFunc 10 args).run (twin Tryz.prog pl) w = .ok (.enter 10 args) w := yco (by decide) args w
@[simp] theorem q_call19 (args : Array Value) (w : World) : (callFunc 19 args).run (twin Tryz.prog pl) w = .ok (.enter 19 args) w := yco (by decide) args w
@[simp] theorem q_call20 (args : Array Value) (w : World) : (callFunc 20 args).run (twin Tryz.prog pl) w = .ok (.enter 20 args) w := yco (by decide) args w
@[simp] theorem q_call21 (args : Array Value) (w : World) : (callFunc 21 args).run (twin Tryz.prog pl) w = .ok (.enter 21 args) w := yco (by decide) args w
@[simp] theorem q_call23 (args : Array Value) (w : World) : (callFunc 23 args).run (twin Tryz.prog pl) w = .ok (.enter 23 args) w := yco (by decide) args w
@[simp] theorem q_call24 (args : Array Value) (w : World) : (callFunc 24 args).run (twin Tryz.prog pl) w = .ok (.enter 24 args) w := yco (by decide) args w
@[simp] theorem q_call25 (args : Array Value) (w : World) : (callFunc 25 args).run (twin Tryz.prog pl) w = .ok (.enter 25 args) w := yco (by decide) args w
@[simp] theorem q_call26 (args : Array Value) (w : World) : (callFunc 26 args).run (twin Tryz.prog pl) w = .ok (.enter 26 args) w := yco (by decide) args w
@[simp] theorem q_call27 (args : Array Value) (w : World) : (callFunc 27 args).run (twin Tryz.prog pl) w = .ok (.enter 27 args) w := yco (by decide) args w
attribute [local go_sem ↓] neChange
attribute [local go_sem] run_neCh
end Go.Proofs.YtaelaldmibgibaaGreat

namespace Go.Proofs.YtaelaldmibgibaaGreat
open Go.RowKit Go.Sim
theorem q_func16 : (twin Tryz.prog pl).funcs[16]? = some Tryz.f16 := yjh Tryz.func16 (by decide) (by kernel_rfl)
@[simp] theorem q_call16 (args : Array Value) (w : World) : (callFunc 16 args).run (twin Tryz.prog pl) w = .ok (.enter 16 args) w := yjg q_func16 (by kernel_rfl) (by kernel_rfl) args w
theorem ymn (ad : Addr) (k : Nat) : (ad.add k).block = ad.block := by unfold Addr.add; split <;> rfl
theorem add_next (ad : Addr) (k j : Nat) (hj : j ≠ 0) : ad.add (k + j) = ⟨(ad.add k).block, (ad.add k).off + j, none⟩ := by
 by_cases hk : k = 0
 ·subst hk
  simp [Addr.add, hj]
 ·simp [Addr.add, hk, hj]
  omega
def inI (c : Int) : Prop := -9223372036854775808 ≤ c ∧ c < 9223372036854775808
section
variable {w0 : World} {nb : Nat} {S : List RS} {K : List Nat} {n : Nat} {o : yko}
end
end Go.Proofs.YtaelaldmibgibaaGreat

namespace Go.Proofs.YtaelaldmibgibaaGreat
open Go.RowKit Go.Sim
section
variable {w0 w wr wr' : World} {nb : Nat} {S : List RS} {tv ev : Value} {ts : List ByteArray} {es : List Int}
end
end Go.Proofs.YtaelaldmibgibaaGreat
