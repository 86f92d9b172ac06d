/- From contracts of the second program's, alone, to the first . -/
import Derived.Conc.LeavingOf
import Derived.Test.YtaelaldmibgibaaGreatDoorX22

set_option linter.all false

namespace Go.Sim
open Go.Conc Go.RowKit
def calm (W : World) : World := { W with heap := W.heap.map Obj.tamed }
theorem calm_same (W : World) : yfs (fun _ => False) W (calm W) :=
 ⟨by simp [calm], fun b _ => by simp [calm], fun _ h => h.elim, rfl, rfl⟩
theorem yrx (W : World) : ybr (calm W) := fun b o h => by
 simp only [calm, Array.getElem?_map, Option.map_eq_some_iff] at h
 obtain ⟨x, _, rfl⟩ := h
 exact ygf x
structure yit (W w : World) : Prop where
 size : W.heap.size ≤ w.heap.size
 old : ∀ b, b < W.heap.size → w.heap[b]? = W.heap[b]?
 os : w.os = W.os
 output : w.output = W.output
theorem ywr {o o' : Obj} (hf : o'.fit = true) (h : o'.tamed = o.tamed) : o' = o := by
 rw [yil (fit_odd hf)] at h
 cases ho : o.odd with
 |false => rw [yil ho] at h; exact h
 |true =>
  exfalso
  simp only [Obj.tamed, ho, if_true] at h
  subst h
  cases o <;> first | (cases ho; done) | (cases hf; done)
theorem still_back {X : Nat → Prop} {W w v : World} (hs : yfs X w v) (hk : ymj X W w) (h : yit (calm W) v) : yit W w := by
 refine ⟨hk.size, fun b hb => ?_, hs.os.symm.trans h.os, hs.output.symm.trans h.output⟩
 have hX : ¬ X b := fun hx => by have := hk.new b hx; omega
 have h1 := hs.same b hX
 have h2 := h.old b (by simpa [calm] using hb)
 obtain ⟨o, ho⟩ : ∃ o, W.heap[b]? = some o := ⟨W.heap[b], Array.getElem?_eq_getElem hb⟩
 rw [ho]
 rcases hk.odd b o ho with e | ⟨o', e, hf⟩
 ·exact e
 ·rw [e]
  simp only [calm, Array.getElem?_map, ho, Option.map_some] at h2
  rw [h2, e, Option.map_some, Option.some.injEq] at h1
  rw [ywr hf h1.symm]
theorem yta {X : Nat → Prop} {L : Lim} {w w' v : World} (h : Rel X L w v) (h' : Rel X L w' v) (hg : ycq X w w') : w' = w := by
 refine yqu ?_ (h'.tw.trans h.tw.symm) (by have := h.cnt; have := h'.cnt; omega) (h'.os.symm.trans h.os) (h'.output.symm.trans h.output)
 apply Array.ext_getElem?
 intro b
 have hsz : w'.heap.size = w.heap.size := h'.size.symm.trans h.size
 cases ho : w.heap[b]? with
 |none =>
  have := Array.getElem?_eq_none_iff.1 ho
  exact Array.getElem?_eq_none_iff.2 (by omega)
 |some o =>
  rcases hg.odd b o ho with e | ⟨o', e, hf⟩
  ·exact e
  ·by_cases hX : X b
   ·rw [← ho]; exact hg.keep b hX
   ·have h1 := h.same b hX
    have h2 := h'.same b hX
    rw [h1, ho, e, Option.map_some, Option.map_some, Option.some.injEq] at h2
    rw [e, ywr hf h2.symm]
structure Seat (P : Program) (A : PL) : Type where
 lib : yyy P A
 whole : Whole (twin P A)
 Z : Nat → Prop
 D : Nat → Prop
 pair : yqz P (twin P A) (ydo (twin P A)) (fun _ => True) Z D yca
 dead : ∀ f, Z f → Dead (twin P A) f
 more : Nat → Prop
 gone : ∀ f, D f → (f = A.fPulls ∨ more f) ∨ Dead (twin P A) f
 phases : ∀ Stop W F, more F → ytk P (twin P A) Stop W F
 ok2 : Op → Bool
 R2 : Nat → Prop
 Z2 : Nat → Prop
 D2 : Nat → Prop
 E2 : Nat → Prop
 pair2 : yqz P (twin P A) ok2 R2 Z2 D2 E2
 apart : ∀ f, R2 f → ¬ D2 f
 none2 : ∀ f, R2 f → ¬ Z2 f
 body2 : R2 A.fBody
 owns : Owns P A.fBody
theorem fine_evL {X : Nat → Prop} {Shun : Loc → Prop} {B : Nat} {es : Array Event} (hS : ∀ l, Shun l → ∃ a, l = .cell a ∧ X a.block) (he : ∀ e ∈ es, yld X B e) : ∀ e ∈ es, EvL Shun B e := by
 intro e hm
 have hf := he e hm
 obtain ⟨loc, x, y⟩ := e
 have hl : ∀ m : Mark, loc = .mark m → ylx m = true := by rintro m rfl; exact hf
 have he' : ∀ e ∈ #[(⟨loc, x, y⟩ : Event)], yld (fun b => X b ∨ b = B) B e := by
  intro e hm
  obtain rfl := List.mem_singleton.1 (Array.mem_toList_iff.2 hm)
  cases loc with
  |cell a => exact ⟨fun x => x.elim hf.1 (fun y => by have := hf.2; omega), hf.2⟩
  |obj r => exact ⟨fun x => x.elim hf.1 (fun y => by have := hf.2; omega), hf.2⟩
  |mark m => exact hf
  |output => trivial
  |goroutines => exact hf.elim
 have hS' : ∀ l, Shun l → ∃ a, l = .cell a ∧ (X a.block ∨ a.block = B) := fun l hl => by
  obtain ⟨a, ha, hx⟩ := hS l hl
  exact ⟨a, ha, .inl hx⟩
 have ho := ydf (Wg := B) (Shun := Shun) (g := 0) (fn := 0) (pos := "") (.inr rfl) hS' he'
 have hmem : ({ g := 0, fn := 0, pos := "", act := .ofEvent ⟨loc, x, y⟩ } : MemOp) ∈ MemOp.ofEvents 0 0 "" #[(⟨loc, x, y⟩ : Event)] := by simp [MemOp.ofEvents]
 have := ho _ hmem
 refine ⟨fun b hb hs => ((this.1 b hb).1) hs, ?_, ?_, this.2.1⟩
 ·rintro rfl; exact absurd (hl _ rfl) (by decide)
 ·rintro rfl; exact absurd (hl _ rfl) (by decide)
section
variable {P : Program} {A : PL}
theorem ysx : ∀ (n k : Nat) (m m' : Machine) (t t' : Trace), runNT P n m t = (.next m', t') → runNT P (n + k) m t = runNT P k m' t' := by
 intro n
 induction n with
 |zero => intro k m m' t t' h; simp only [runNT, Prod.mk.injEq, Stepped.next.injEq] at h; rw [Nat.zero_add, h.1, h.2]
 |succ n ih =>
  intro k m m' t t' h
  rw [show n + 1 + k = (n + k) + 1 by omega]
  simp only [runNT] at h ⊢
  generalize stepT P m = x at h
  obtain ⟨x, ops⟩ := x
  cases x with
  |next m1 => exact ih k m1 m' _ t' h
  |ended o w => cases h
theorem ylz {Q : Program} {m m' : Machine} (h : Steps Q m m') : ∃ n, runN Q n m = .next m' := h
theorem leaving_of_calls (S : Seat P A) {f : Nat} {fn : Func} {args : Array Value} {W : World} {x : Value} (hfn : (twin P A).funcs[f]? = some fn) (hsame : P.funcs[f]? = (twin P A).funcs[f]?) (hD : ¬ S.D f) (hi : P.inits.idxOf? f = none)
  (h : ∀ τ, Calls (twin P A) f args ((calm W).tp τ) (fun e w' => e = .returned x ∧ yit (calm W) w')) :
  ∃ M last o w' t', runNT P (M + 1) (solo (G (Frame.enter P f args .normal) []) W) #[] = (.ended o w', t') ∧ runN P M (solo (G (Frame.enter P f args .normal) []) W) = .next last ∧
    step P last = .ended o w' ∧ Conc.Good P (fun v W' => v = x ∧ yit W W') last o w' t' := by
 have hok : Sta.Ok (twin P A) ⟨Frame.enter (twin P A) f args .normal, [], calm W⟩ :=
  ⟨ylv S.whole.pair.code S.whole.pair.subE trivial (fun h => h.elim) hfn, .inl rfl, fun _ h => by simp at h, yrx W⟩
 have ht := yyw S.whole (Stop' := fun fr w' => fr.fn = f ∧ fr.leaving (twin P A) w' (.returned x) ∧ yit (calm W) w') hok (fun τ => by
  obtain ⟨e, w', fr, ⟨rfl, hst⟩, hc, hfr, hlv⟩ := h τ [ydu]
  obtain ⟨n, hn⟩ := ylz hc
  exact ⟨n, fr, w', hn, hlv.1, hfr, hlv, hst⟩)
 have hst : Sta.Strict (twin P A) ⟨Frame.enter (twin P A) f args .normal, [], calm W⟩ := ⟨ylv S.pair.code S.pair.subE trivial hD hfn, fun _ h => by simp at h⟩
 have hC := carry S.pair S.dead S.gone (fun F hF => by
  rcases hF with rfl | hF
  ·exact phase S.lib S.pair S.pair2 S.apart S.none2 S.body2 S.owns W
  ·exact S.phases _ W F hF) ht hok hst
 have hen : Frame.enter P f args .normal = Frame.enter (twin P A) f args .normal := yju hsame
 rw [hen]
 obtain ⟨N, gs, w, sl, T, hrun, fr, v, X, Shun, q, h0, hm, hd, hk, hL, hP, hSm, hKp, hS, τ, hff, hlv, hst⟩ := hC (fun _ => False) (fun _ => False) 1 W (by omega) (fun _ h => h.elim) (calm_same W) (ymj.refl W) #[gor (Frame.enter (twin P A) f args .normal) []] none #[] (fun _ => 0) rfl rfl (leavers_one P _) (past_nil.mono (Nat.zero_le _))
 obtain ⟨_, _, _, fn', hfn', hres⟩ := hlv
 rw [hff] at hfn'
 obtain rfl : fn = fn' := Option.some.inj (hfn.symm.trans hfn')
 have hfin : ∀ d, ∃ es, stepG P true (gor fr []) (w.at d) = .ended (.done x) (w.at d) es ∧ ∀ e ∈ es, EvL Shun w.heap.size e := by
  intro d
  have hSd := hSm.at d
  have hR : Rel X ⟨v.drawn, (w.at d).drawn, v.drawn, (w.at d).tape, τ⟩ (w.at d) (v.tp τ) :=
   ⟨hSd.size, hSd.same, hSd.bare, hSd.os, hSd.output, fun i hi => absurd (show v.drawn + i < v.drawn from hi) (by omega), Nat.add_comm .., rfl, rfl⟩
  have hs := zej (Esc := fun _ => False) (X := X) S.pair.tables fn fr.tmps _ _ _ #[] hR
  rw [hres] at hs
  rcases hs (Nat.le_refl _) with q | ⟨w1, new, e, hR1, hz, hfn1⟩
  ·exact q.elim
  ·obtain rfl := yta hR hR1 hz
   rw [Array.empty_append] at e
   have hPf : P.funcs[fr.fn]? = some fn := by rw [hff, hsame]; exact hfn
   have e2 := yey (cs := []) P true (w.at d) hm
   unfold unwind at e2
   simp only [hd, hm, hPf, e] at e2
   unfold doReturn at e2
   simp only [hk, hff, hi] at e2
   refine ⟨_, e2.trans rfl, ?_⟩
   rw [Array.append_empty]
   exact fine_evL hS (yha hfn1)
 have := beside_ends (P := P) (Shun := Shun) (B := w.heap.size) (D := fun _ _ _ => False) (Post := fun v W' => v = x ∧ yit W W') (fun _ _ _ h => h.elim) (sl := sl) (n := 0) (w := w) h0 hL hP (fun w1 hw1 => by
  obtain ⟨d, rfl⟩ := hw1
  obtain ⟨es, e, he⟩ := hfin d
  exact ⟨rfl, x, es, e, he, rfl, still_back (hSm.at d) (hKp.at d) ⟨hst.size, hst.old, hst.os, hst.output⟩⟩)
 obtain ⟨M, last, o, w', t', h1, h2, h3, h4⟩ := this
 refine ⟨N + M, last, o, w', t', ?_, ?_, h3, h4⟩
 ·rw [Nat.add_assoc]
  exact (ysx N (M + 1) _ _ _ _ hrun).trans h1
 ·have := congrArg Prod.fst (ysx N M _ _ _ _ hrun)
  rw [runNT_fst, runNT_fst] at this
  exact this.trans h2
end
end Go.Sim
#print axioms Go.Sim.leaving_of_calls

namespace Go.Sim
open Go.Conc Go.RowKit
structure Shared (P Q : Program) (R : Nat → Bool) : Prop where
 tables : P.toTables = Q.toTables
 ownP : ∀ f, R f = true → ywc P f
 same : ∀ f, R f = true → P.funcs[f]? = Q.funcs[f]?
 code : ∀ (f : Nat) fn c, R f = true → P.funcs[f]? = some fn → fn.body = some c → ybe (fun o => okG P o && ycv R o) c = true
theorem yxh {P Q : Program} (h : P.toTables = Q.toTables) (o : Op) : ydo P o = ydo Q o := by
 have : ∀ t, P.underlying t = Q.underlying t := fun t => by simp only [Program.underlying, h]
 cases o <;> simp only [ydo, this]
theorem yus {P Q : Program} (h : P.toTables = Q.toTables) (o : Op) : okG P o = okG Q o := by
 cases o <;> first | rfl | exact yxh h _
section
variable {P Q : Program} {R : Nat → Bool}
abbrev okR (P : Program) (R : Nat → Bool) : Op → Bool := fun o => okG P o && ycv R o
abbrev ypl (R : Nat → Bool) : Nat → Prop := fun f => ¬ R f = true
theorem Shared.ownQ (H : Shared P Q R) (f : Nat) (h : R f = true) : ywc Q f := by
 obtain ⟨fn, h1, h2⟩ := H.ownP f h
 exact ⟨fn, (H.same f h).symm.trans h1, h2⟩
theorem Shared.to (H : Shared P Q R) : PairB Q P (okR P R) (fun f => R f = true) (fun _ => False) (ypl R) (ypl R) :=
 PairB.static (fun o ho => Bool.and_eq_true_iff.1 ho) H.tables.symm H.ownP (fun f h => (H.same f h).symm) H.code (E := ypl R) (fun f h => Classical.byContradiction h)
theorem Shared.back (H : Shared P Q R) : PairB P Q (okR P R) (fun f => R f = true) (fun _ => False) (ypl R) (ypl R) := by
 have e : okR P R = (fun o => okG Q o && ycv R o) := funext fun o => by show (okG P o && ycv R o) = _; rw [yus H.tables]
 rw [e]
 refine PairB.static (fun o ho => Bool.and_eq_true_iff.1 ho) H.tables H.ownQ H.same (fun f fn c h h1 h2 => ?_) (E := ypl R) (fun f h => Classical.byContradiction h)
 rw [← e]
 exact H.code f fn c h ((H.same f h).trans h1) h2
theorem yml.swap (H : Shared P Q R) {fr : Frame} (h : yml P (okR P R) (ypl R) fr) : yml Q (okR P R) (ypl R) fr := by
 obtain ⟨fn, h1, _⟩ := H.ownQ fr.fn (Classical.byContradiction h.fn)
 exact ⟨h.items, h.defers, h.kind, h.round, h.fn, (Array.getElem?_eq_some_iff.1 h1).1⟩
theorem Shared.step (H : Shared P Q R) {fr : Frame} {inner sP sQ : List Frame} {v v' : World} {g' : Goroutine} {es : Array Event} (hf : yml P (okR P R) (ypl R) fr) (hm : fr.mode = .run ∨ fr.mode = .returning) (hc : OkCs P (okR P R) (ypl R) inner) (hne : fr.mode = .returning → inner ≠ []) (hv : ybr v)
  (h : stepG P true (gor fr (inner ++ sP)) v = .go g' v' es) :
  (∃ fr' ch, fr'.mode = .panicking ch ∧ fr'.defers = [] ∧ g' = gor fr' (inner ++ sP)) ∨
  ∃ fr' inner', yml P (okR P R) (ypl R) fr' ∧ (fr'.mode = .run ∨ fr'.mode = .returning) ∧ OkCs P (okR P R) (ypl R) inner' ∧ ybr v' ∧ g' = gor fr' (inner' ++ sP) ∧ ∃ es', stepG Q true (gor fr (inner ++ sQ)) v = .go (gor fr' (inner' ++ sQ)) v' es' := by
 have hR : Rel yca ⟨v'.drawn, 0, 0, v.tape, v.tape⟩ v v := yom hv v.tape v.tape v'.drawn (fun _ _ _ => rfl)
 rcases zfa (m := true) (sP := sQ) (sQ := sP) H.to (fun o ho => ynq H.tables.symm (fun f h => (H.same f h).symm) H.ownP fr o (Bool.and_eq_true_iff.1 ho).1 (Bool.and_eq_true_iff.1 ho).2 hR rfl) hf hm hc hne hR h (Nat.le_refl _) with ⟨f, args, _, hz, _⟩ | ⟨w', es', hR', _, _, hcase⟩ | hp
 ·exact hz.elim
 ·rcases hcase with ⟨fr', inner', hf', hm', hc', hg', hP⟩ | ⟨f, args, hr, hd, _⟩
  ·obtain ⟨b1, d1, tw1, tv1, o1, p1⟩ := yol hR'
   have hcQ : OkCs Q (okR P R) (ypl R) inner := fun c h => ⟨(hc c h).1.swap H, (hc c h).2⟩
   rcases zfa (m := true) (sP := sP) (sQ := sQ) H.back (fun o ho => ynq H.tables H.same H.ownQ fr o (by rw [← yus H.tables]; exact (Bool.and_eq_true_iff.1 ho).1) (Bool.and_eq_true_iff.1 ho).2 hR rfl) (hf.swap H) hm hcQ hne hR hP (Nat.le_of_eq d1.symm) with ⟨f, args, _, hz, _⟩ | ⟨w2, es2, hR3, _, _, hcase2⟩ | ⟨fr2, ch, hp, _, hg2⟩
   ·exact hz.elim
   ·obtain ⟨b2, _, _, _, _, _⟩ := yol hR3
    have hw2 : w2 = v' := by
     rcases hcase2 with ⟨fr2, inner2, _, _, _, hg2, hP2⟩ | ⟨f, args, hr, hd, _⟩
     ·rw [h] at hP2
      cases hP2
      rfl
     ·exact absurd hr hd
    subst hw2
    have heap : w'.heap = w2.heap := by
     apply Array.ext_getElem?
     intro b
     have e1 := b1 b
     have e2 := b2 b
     have : Obj.tamed ∘ Obj.tamed = Obj.tamed := funext ygf
     exact e2.trans (by rw [e1, Option.map_map, this])
    have hfix : ybr w2 := fun b o ho => by
     have := b1 b
     rw [ho] at this
     cases hw : w'.heap[b]? with
     |none => rw [hw] at this; cases this
     |some x =>
      rw [hw, Option.map_some, Option.some.injEq] at this
      rw [this]; exact ygf x
    have hww : w' = w2 := yqu heap (tw1.trans tv1.symm) d1.symm o1.symm p1.symm
    rw [hww] at hP
    exact .inr ⟨fr', inner', hf', hm', hc', hfix, hg', es', hP⟩
   ·have : fr' = fr2 := congrArg Goroutine.frame hg2
    subst this
    rcases hm' with q | q <;> (rw [q] at hp; cases hp)
  ·exact absurd hr hd
 ·exact .inl hp
theorem Shared.run (H : Shared P Q R) {cs : List Frame} : ∀ (n : Nat) (fr : Frame) (inner : List Frame) (v : World) (fr' : Frame) (v' : World), yml P (okR P R) (ypl R) fr → (fr.mode = .run ∨ fr.mode = .returning) → OkCs P (okR P R) (ypl R) inner → ybr v →
  runN P n (lone fr (inner ++ [ydu]) v) = .next (lone fr' [ydu] v') → fr'.mode = .returning → ybr v' ∧ runN Q n (lone fr (inner ++ cs) v) = .next (lone fr' cs v')
 |0, fr, inner, v, fr', v', hf, hm, hc, hv, h, hr => by
  simp only [runN, Stepped.next.injEq] at h
  obtain ⟨rfl, e, rfl⟩ := yul h
  have : inner = [] := by
   have := congrArg List.length e
   simp at this
   exact this
  subst this
  exact ⟨hv, rfl⟩
 |n + 1, fr, inner, v, fr', v', hf, hm, hc, hv, h, hr => by
  have hne : fr.mode = .returning → inner ≠ [] := by
   rintro hm rfl
   exact yph hf hm n h
  rcases ynf (ok := okR P R) H.to.ends (cs := inner ++ [ydu]) (v := v) hv.tame hf hm with ⟨g, w, es, h1, _⟩ | ⟨o, w, es, h1⟩
  ·rcases H.step (sQ := cs) hf hm hc hne hv h1 with ⟨fr1, ch, hp, hd, hg⟩ | ⟨fr1, inner1, hf1, hm1, hc1, hv1, hg, es', hQ⟩
   ·subst hg
    have e2 := yji h1
    simp only [runN, e2] at h
    exact (ykx n inner fr1 w ch fr' [ydu] v' hp hd (fun c hcc => ⟨(hc c hcc).1.defers, (hc c hcc).2⟩) h hr).elim
   ·subst hg
    have e2 := yji h1
    simp only [runN, e2] at h
    obtain ⟨hv', h'⟩ := Shared.run H n fr1 inner1 w fr' v' hf1 hm1 hc1 hv1 h hr
    refine ⟨hv', ?_⟩
    have e3 := yji hQ
    simp only [runN, e3]
    exact h'
  ·exact (yfp (yfm h1) n h).elim
theorem Shared.calls (H : Shared P Q R) {f : Nat} {args : Array Value} {v : World} {Po : Ending → World → Prop} (hf : R f = true) (hv : ybr v) (h : Calls P f args v Po) (hPo : ∀ e w', Po e w' → ∃ x, e = .returned x) : Calls Q f args v (fun e w' => Po e w' ∧ ybr w') := by
 intro cs
 obtain ⟨e, w', fr, hpo, hcm, hff, hlv⟩ := h [ydu]
 obtain ⟨x, rfl⟩ := hPo e w' hpo
 obtain ⟨n, hn⟩ := ylz hcm
 obtain ⟨fn, hfn, _⟩ := H.ownP f hf
 have hok : yml P (okR P R) (ypl R) (Frame.enter P f args .normal) := ylv (Rr := fun f => R f = true) (D := ypl R) (E := ypl R) (fun f fn c h _ h1 h2 => H.code f fn c h h1 h2) (fun _ h => h) hf (fun h => h hf) hfn
 have hrun := H.run (cs := cs) n _ [] v fr w' hok (.inl rfl) (fun _ h => by simp at h) hv hn hlv.1
 rw [yju (H.same f hf)] at hrun
 refine ⟨.returned x, w', fr, ⟨hpo, hrun.1⟩, ⟨n, hrun.2⟩, hff, ?_⟩
 obtain ⟨h1, h2, h3, fn', h4, h5⟩ := hlv
 refine ⟨h1, h2, h3, fn', by rw [hff, ← H.same f hf, ← hff]; exact h4, ?_⟩
 have hR : Rel yca ⟨w'.drawn, 0, 0, w'.tape, w'.tape⟩ w' w' := yom hrun.1 w'.tape w'.tape w'.drawn (fun _ _ _ => rfl)
 have hs := zej (P := Q) (Q := P) (Esc := fun _ => False) (X := yca) H.tables.symm fn' fr.tmps _ _ _ #[] hR
 rw [h5] at hs
 rcases hs (Nat.le_refl _) with q | ⟨w1, new, e, hR1, hz, _⟩
 ·exact q.elim
 ·obtain rfl := yta hR hR1 hz
  have := yig Q (results fn' fr.tmps) w1 #[]
  rw [e] at this
  exact this.symm
end
end Go.Sim
#print axioms Go.Sim.Shared.calls

namespace Go.Sim
open Go.Conc Go.RowKit
def yhc (fn : Func) : Bool := !(fn.name == "runtime.NumGoroutine")
theorem yuk : (Extern.allGenericRows.lookup "internal/bytealg.MakeNoZero").isNone = true ∧ (Extern.allNextRows.lookup "internal/bytealg.MakeNoZero").isNone = true ∧ (Extern.allNextRows.lookup "").isNone = true := by decide
theorem lk_typ : Extern.allTypedRows.lookup "internal/bytealg.MakeNoZero" = some Extern.BytealgMakeNoZero.makeNoZero := by rfl
theorem lk_rows : ["internal/abi.NoEscape", "internal/bytealg.IndexByteString", "internal/bytealg.IndexString", "internal/bytealg.CountString"].all (fun n => (Extern.allGenericRows.lookup n).isNone && ((Extern.allTypedRows.lookup n).isNone && (Extern.allNextRows.lookup n).isNone)) = true := by decide
theorem row_ok {fn : Func} (ho : fn.origin = "") (hb : fn.body.isNone = true) {s : String} (hs : s ∈ ["internal/abi.NoEscape", "internal/bytealg.IndexByteString", "internal/bytealg.IndexString", "internal/bytealg.CountString"]) (hn : fn.name = s) {g : Array Value → Sem Value} (hg : Extern.allRows.lookup s = some g) (hg' : g = Extern.AbiNoEscape.same ∨ g = Extern.BytealgIndexByte.indexByte ∨ g = Extern.BytealgIndex.index ∨ g = Extern.BytealgCount.count) : Nat2 fn := by
 have h := List.all_eq_true.1 lk_rows s hs
 simp only [Bool.and_eq_true] at h
 have g1 := Option.isNone_iff_eq_none.1 h.1
 have t1 := Option.isNone_iff_eq_none.1 h.2.1
 have n1 := Option.isNone_iff_eq_none.1 h.2.2
 have n3 := Option.isNone_iff_eq_none.1 yuk.2.2
 refine ⟨hb, ?_, .inr ⟨g, ?_, hg'⟩⟩
 ·unfold Extern.findNext
  dsimp only
  rw [hn, ho, n1, n3]
  rfl
 ·unfold Extern.find
  dsimp only
  rw [hn, g1, t1, hg]
  rfl
theorem natB_ok {fn : Func} (h : yvx fn = true) (hb : fn.body.isNone = true) : Nat2 fn := by
 simp only [yvx, Bool.and_eq_true, Bool.or_eq_true, beq_iff_eq] at h
 obtain ⟨h, ho⟩ := h
 rcases h with h | h | h | h | h
 ·have g1 := Option.isNone_iff_eq_none.1 yuk.1
  have n1 := Option.isNone_iff_eq_none.1 yuk.2.1
  have n3 := Option.isNone_iff_eq_none.1 yuk.2.2
  refine ⟨hb, ?_, .inl ⟨fn.params, fn.resultTypes, ?_⟩⟩
  ·unfold Extern.findNext
   dsimp only
   rw [h, ho, n1, n3]
   rfl
  ·unfold Extern.find
   dsimp only
   rw [h, g1, lk_typ]
   rfl
 ·exact row_ok ho hb (by simp) h (g := Extern.AbiNoEscape.same) (by rfl) (.inl rfl)
 ·exact row_ok ho hb (by simp) h (g := Extern.BytealgIndexByte.indexByte) (by rfl) (.inr (.inl rfl))
 ·exact row_ok ho hb (by simp) h (g := Extern.BytealgIndex.index) (by rfl) (.inr (.inr (.inl rfl)))
 ·exact row_ok ho hb (by simp) h (g := Extern.BytealgCount.count) (by rfl) (.inr (.inr (.inr rfl)))
theorem ypj {fn : Func} (h : yvx fn = true) : (fn.name == "runtime.NumGoroutine") = false := by
 simp only [yvx, Bool.and_eq_true, Bool.or_eq_true, beq_iff_eq] at h
 rcases h.1 with h | h | h | h | h <;> (rw [h]; decide)
structure Names where
 l : List Nat
 lw : List Nat
 ms : List Nat
def fnOk (P : Program) (A : PL) (N : Names) (f : Nat) (fn : Func) : Bool :=
 (f == A.fPulls || A.gone f || match fn.body with
  |some c => yhc fn && ybe (okG P) c && (N.ms.contains f || ybe (ydo P) c)
  |none => true) &&
 (!N.l.contains f || match fn.body with
  |some c => yhc fn && !(f == A.fPulls) && !A.gone f && ybe (fun o => okG P o && ycv N.l.contains o) c
  |none => yvx fn && !(f == A.fPulls) && !A.gone f) &&
 (!N.lw.contains f || match fn.body with
  |some c => yhc fn && !(f == A.fPulls) && !A.gone f && ybe (fun o => ydo P o && ycv N.lw.contains o) c
  |none => yvx fn && !(f == A.fPulls) && !A.gone f)
def yev (P : Program) (A : PL) (N : Names) : Bool :=
 ((List.range P.funcs.size).all fun f => match P.funcs[f]? with
  |some fn => fnOk P A N f fn
  |none => false) && ybe (ydo P) (ygq A) && (N.lw.contains A.fBody && (P.funcs[A.fBody]?.all fun fn => !fn.body.isNone)) && (N.l.all (· < P.funcs.size) && N.lw.all (· < P.funcs.size))
section
variable {P : Program} {A : PL} {N : Names}
theorem seat_fn (h : yev P A N = true) {f : Nat} {fn : Func} (hf : P.funcs[f]? = some fn) : fnOk P A N f fn = true := by
 simp only [yev, Bool.and_eq_true, List.all_eq_true] at h
 have := h.1.1.1 f (List.mem_range.2 (Array.getElem?_eq_some_iff.1 hf).1)
 rw [hf] at this
 exact this
theorem yvp (h : yev P A N = true) {f : Nat} {fn : Func} {c : Code} (hf : P.funcs[f]? = some fn) (hb : fn.body = some c) : f = A.fPulls ∨ A.gone f = true ∨ (yhc fn = true ∧ ybe (okG P) c = true ∧ (N.ms.contains f = true ∨ ybe (ydo P) c = true)) := by
 have := seat_fn h hf
 simp only [fnOk, Bool.and_eq_true] at this
 have h1 := this.1.1
 rw [hb] at h1
 simp only [Bool.or_eq_true, Bool.and_eq_true, beq_iff_eq] at h1
 rcases h1 with (q | q) | q
 ·exact .inl q
 ·exact .inr (.inl q)
 ·exact .inr (.inr ⟨q.1.1, q.1.2, q.2⟩)
theorem yqr {f : Nat} : (twin P A).funcs[f]? = (P.funcs[f]?).map (yis A f) := by
 simp [twin]
theorem yop {f : Nat} {fq : Func} (h : (twin P A).funcs[f]? = some fq) : ∃ fn, P.funcs[f]? = some fn ∧ fq = yis A f fn := by
 rw [yqr, Option.map_eq_some_iff] at h
 obtain ⟨fn, h1, h2⟩ := h
 exact ⟨fn, h1, h2.symm⟩
theorem yeh : P.toTables = (twin P A).toTables := rfl
theorem twin_ok : ydo (twin P A) = ydo P := funext fun o => (yxh yeh o).symm
theorem twin_okG : okG (twin P A) = okG P := funext fun o => (yus yeh o).symm
theorem okCode_mono {ok ok' : Op → Bool} (h : ∀ o, ok o = true → ok' o = true) : ∀ c : Code, ybe ok c = true → ybe ok' c = true := by
 intro c
 induction c with
 |region id ops d =>
  intro hc
  have hc' : ops.all (fun o => ok o.op) = true := hc
  show ops.all (fun o => ok' o.op) = true
  rw [Array.all_eq_true] at hc' ⊢
  exact fun i hi => h _ (hc' i hi)
 |seq a b iha ihb => intro hc; simp only [ybe, Bool.and_eq_true] at hc ⊢; exact ⟨iha hc.1, ihb hc.2⟩
 |cond x a b iha ihb => intro hc; simp only [ybe, Bool.and_eq_true] at hc ⊢; exact ⟨iha hc.1, ihb hc.2⟩
 |block i b ih => intro hc; exact ih hc
 |loop b ih => intro hc; exact ih hc
 |scope b ih => intro hc; exact ih hc
 |_ => intro hc; first | exact hc | cases hc
theorem code_G {c : Code} (h : ybe (ydo P) c = true) : ybe (okG P) c = true := okCode_mono (fun o ho => okG_of ho) _ h
theorem ytg (h : yev P A N = true) : Whole (twin P A) := by
 refine ⟨fun f fq hq => ?_, fun f fq c hq hc => ?_⟩
 ·obtain ⟨fn, hf, rfl⟩ := yop hq
  unfold yis
  by_cases e : f = A.fPulls
  ·rw [if_pos e]
   exact ⟨.inl rfl, rfl⟩
  ·rw [if_neg e]
   by_cases e2 : (A.gone f || (fn.body.isNone && !yvx fn)) = true
   ·rw [if_pos e2]
    exact ⟨.inl rfl, rfl⟩
   ·rw [if_neg e2]
    simp only [Bool.or_eq_true, not_or] at e2
    cases hb : fn.body with
    |none =>
     have hn : yvx fn = true := by
      cases q : yvx fn with
      |true => rfl
      |false => exact absurd (by rw [hb, q]; rfl) e2.2
     exact ⟨.inr (natB_ok hn (by rw [hb]; rfl)), ypj hn⟩
    |some c =>
     refine ⟨.inl (by rw [hb]; rfl), ?_⟩
     rcases yvp h hf hb with q | q | q
     ·exact absurd q e
     ·exact absurd q e2.1
     ·simpa [yhc] using q.1
 ·rw [twin_okG]
  obtain ⟨fn, hf, rfl⟩ := yop hq
  unfold yis at hc
  by_cases e : f = A.fPulls
  ·rw [if_pos e] at hc
   simp only [yev, Bool.and_eq_true] at h
   cases hc
   exact code_G h.1.1.2
  ·rw [if_neg e] at hc
   by_cases e2 : (A.gone f || (fn.body.isNone && !yvx fn)) = true
   ·rw [if_pos e2] at hc
    cases hc
    rfl
   ·rw [if_neg e2] at hc
    simp only [Bool.or_eq_true, not_or] at e2
    rcases yvp h hf hc with q | q | q
    ·exact absurd q e
    ·exact absurd q e2.1
    ·exact q.2.1
def Gone (P : Program) (A : PL) (f : Nat) : Prop := f ≠ A.fPulls ∧ ∃ fn, P.funcs[f]? = some fn ∧ (A.gone f || (fn.body.isNone && !yvx fn)) = true
theorem yjr {f : Nat} (h1 : f ≠ A.fPulls) (h2 : ¬ Gone P A f) : P.funcs[f]? = (twin P A).funcs[f]? := by
 rw [yqr]
 cases hf : P.funcs[f]? with
 |none => rfl
 |some fn =>
  rw [Option.map_some]
  unfold yis
  rw [if_neg h1, if_neg]
  intro e
  exact h2 ⟨h1, fn, hf, e⟩
def Odds (P : Program) (A : PL) (N : Names) (f : Nat) : Prop := (f = A.fPulls ∨ N.ms.contains f = true) ∨ Gone P A f
theorem yqs (H : yyy P A) (h : yev P A N = true) : yqz P (twin P A) (ydo (twin P A)) (fun _ => True) (Gone P A) (Odds P A N) yca := by
 have W := ytg h
 have T : Twin P (twin P A) (Gone P A) := by
  refine ⟨yeh, by simp [twin], W.bodied, fun f fq hz hq => ?_, fun f fq hz hq => ?_⟩
  ·obtain ⟨fn, hf, rfl⟩ := yop hq
   by_cases e : f = A.fPulls
   ·subst e
    rw [H.pulls] at hf
    cases hf
    refine .inl ⟨?_, _, H.pulls, rfl, rfl⟩
    unfold yis
    rw [if_pos rfl]
    rfl
   ·have e1 := yjr e hz
    rw [hf] at e1
    have hd := W.bodied f fn e1.symm
    have e2 : yis A f fn = fn := by rw [hq] at e1; exact (Option.some.inj e1).symm
    rw [e2]
    rcases hd.1 with h1 | hn
    ·exact .inl ⟨h1, fn, hf, h1, hd.2⟩
    ·exact .inr ⟨hn, hf⟩
  ·obtain ⟨h1, fn, hf, h2⟩ := hz
   rw [yqr, hf, Option.map_some, Option.some.injEq] at hq
   rw [← hq]
   unfold yis
   rw [if_neg h1, if_pos h2]
   rfl
 refine ⟨⟨yeh, fun fr o v a v' ho hv e => W.ends fr o v a v' (okG_of ho) hv e, fun fr o f args v v' ho hv e => ⟨trivial, yll W.bodied hv fr.eval o (okG_of ho) _ v' e⟩, fun f _ hd => ?_, fun f fn c _ hd h1 h2 => ?_, fun f hz => .inr hz, fun _ h => h.elim, fun f fq _ hq => ?_⟩, fun X fr o ho => zbu T fr.eval o ho⟩
 ·exact yjr (fun e => hd (.inl (.inl e))) (fun e => hd (.inr e))
 ·rw [twin_ok]
  have hne : f ≠ A.fPulls := fun e => hd (.inl (.inl e))
  have hng : ¬ Gone P A f := fun e => hd (.inr e)
  have hf := (yjr hne hng).trans h1
  rcases yvp h hf h2 with q | q | q
  ·exact absurd q hne
  ·exact absurd ⟨hne, fn, hf, by rw [q]; rfl⟩ hng
  ·rcases q.2.2 with q | q
   ·exact absurd (.inl (.inr q)) hd
   ·exact q
 ·obtain ⟨fn, hf, rfl⟩ := yop hq
  refine ⟨fn, hf, ?_⟩
  unfold yis
  by_cases e : f = A.fPulls
  ·rw [if_pos e]
   subst e
   rw [H.pulls] at hf
   cases hf
   rfl
  ·rw [if_neg e]
   split <;> rfl
theorem ywu {f : Nat} (h : Gone P A f) : Dead (twin P A) f := by
 obtain ⟨h1, fn, hf, h2⟩ := h
 refine ⟨deadFn fn, "twin", ?_, rfl⟩
 rw [yqr, hf, Option.map_some]
 unfold yis
 rw [if_neg h1, if_pos h2]
def Keys (P : Program) (A : PL) (ok : Op → Bool) (l : List Nat) : Prop := ∀ f, l.contains f = true → ∃ fn, P.funcs[f]? = some fn ∧ f ≠ A.fPulls ∧ A.gone f = false ∧ ((∃ c, fn.body = some c ∧ yhc fn = true ∧ ybe ok c = true) ∨ (fn.body = none ∧ yvx fn = true))
theorem set_key {ok : Op → Bool} {l : List Nat} (hl : ∀ f fn, P.funcs[f]? = some fn → l.contains f = true → (match fn.body with
  |some c => yhc fn && !(f == A.fPulls) && !A.gone f && ybe ok c
  |none => yvx fn && !(f == A.fPulls) && !A.gone f) = true) (hs : ∀ f ∈ l, f < P.funcs.size) : Keys P A ok l := by
 intro f hf
 have hlt := hs f (by simpa using hf)
 have hg : P.funcs[f]? = some P.funcs[f] := Array.getElem?_eq_getElem hlt
 have := hl f _ hg hf
 cases hb : P.funcs[f].body with
 |none =>
  rw [hb] at this
  simp only [Bool.and_eq_true, Bool.not_eq_true', beq_eq_false_iff_ne] at this
  exact ⟨_, hg, this.1.2, this.2, .inr ⟨hb, this.1.1⟩⟩
 |some c =>
  rw [hb] at this
  simp only [Bool.and_eq_true, Bool.not_eq_true', beq_eq_false_iff_ne] at this
  exact ⟨_, hg, this.1.1.2, this.1.2, .inl ⟨c, hb, this.1.1.1, this.2⟩⟩
section
variable {ok : Op → Bool} {l : List Nat}
theorem set_own (key : Keys P A ok l) (f : Nat) (hl : l.contains f = true) : ywc P f := by
 obtain ⟨fn, h1, _, _, ⟨c, h2, h3, _⟩ | ⟨h2, h3⟩⟩ := key f hl
 ·exact ⟨fn, h1, .inl (by rw [h2]; rfl), by simpa [yhc] using h3⟩
 ·exact ⟨fn, h1, .inr (natB_ok h3 (by rw [h2]; rfl)), ypj h3⟩
theorem yon (key : Keys P A ok l) (f : Nat) (hl : l.contains f = true) : P.funcs[f]? = (twin P A).funcs[f]? := by
 obtain ⟨fn, h1, h4, h5, hc⟩ := key f hl
 refine yjr h4 (fun g => ?_)
 obtain ⟨_, fn', h1', this⟩ := g
 rw [h1] at h1'
 cases h1'
 rcases hc with ⟨c, h2, _⟩ | ⟨h2, h3⟩
 ·rw [h5, h2] at this
  cases this
 ·rw [h5, h2, h3] at this
  cases this
theorem set_code (key : Keys P A ok l) (f : Nat) (fn : Func) (c : Code) (hl : l.contains f = true) (hf : P.funcs[f]? = some fn) (hb : fn.body = some c) : ybe ok c = true := by
 obtain ⟨fn', h1, h4, h5, ⟨c', h2, h3, h6⟩ | ⟨h2, _⟩⟩ := key f hl
 ·rw [hf] at h1
  cases h1
  rw [hb] at h2
  cases h2
  exact h6
 ·rw [hf] at h1
  cases h1
  rw [hb] at h2
  cases h2
end
theorem seat_l (h : yev P A N = true) : Keys P A (fun o => okG P o && ycv N.l.contains o) N.l := set_key (fun f fn hf hl => by
  have := seat_fn h hf
  simp only [fnOk, Bool.and_eq_true, hl, Bool.not_true, Bool.false_or] at this
  exact this.1.2) (by
  simp only [yev, Bool.and_eq_true, List.all_eq_true, decide_eq_true_eq] at h
  exact h.2.1)
theorem ynd (h : yev P A N = true) : Keys P A (fun o => ydo P o && ycv N.lw.contains o) N.lw := set_key (fun f fn hf hl => by
  have := seat_fn h hf
  simp only [fnOk, Bool.and_eq_true, hl, Bool.not_true, Bool.false_or] at this
  exact this.2) (by
  simp only [yev, Bool.and_eq_true, List.all_eq_true, decide_eq_true_eq] at h
  exact h.2.2)
theorem seat_shared (h : yev P A N = true) : Shared P (twin P A) N.l.contains :=
 ⟨yeh, set_own (seat_l h), yon (seat_l h), set_code (seat_l h)⟩
theorem seat_pair2 (h : yev P A N = true) : yqz P (twin P A) (fun o => ydo (twin P A) o && ycv N.lw.contains o) (fun f => N.lw.contains f = true) (fun _ => False) (ypl N.lw.contains) (ypl N.lw.contains) := by
 refine yqz.static yeh (fun f hf => ?_) (yon (ynd h)) (fun f fn c hf h1 h2 => ?_) (E := ypl N.lw.contains) (fun f h => Classical.byContradiction h)
 ·obtain ⟨fn, h1, h2⟩ := set_own (ynd h) f hf
  exact ⟨fn, (yon (ynd h) f hf).symm.trans h1, h2⟩
 ·rw [twin_ok]
  exact set_code (ynd h) f fn c hf ((yon (ynd h) f hf).trans h1) h2
theorem seat_owns (h : yev P A N = true) : Owns P A.fBody := by
 have hl : N.lw.contains A.fBody = true ∧ (P.funcs[A.fBody]?.all fun fn => !fn.body.isNone) = true := by
  simp only [yev, Bool.and_eq_true] at h
  exact h.1.2
 obtain ⟨fn, h1, h2⟩ := set_own (ynd h) _ hl.1
 have h3 := hl.2
 rw [h1] at h3
 exact ⟨fn, h1, by simpa using h3, h2.2⟩
def Seat.of (H : yyy P A) (h : yev P A N = true) (hp : ∀ Stop W F, N.ms.contains F = true → ytk P (twin P A) Stop W F) : Seat P A where
 lib := H
 whole := ytg h
 Z := Gone P A
 D := Odds P A N
 pair := yqs H h
 dead := fun f hz => ywu hz
 more := fun f => N.ms.contains f = true
 gone := fun f hd => hd.imp id ywu
 phases := hp
 ok2 := fun o => ydo (twin P A) o && ycv N.lw.contains o
 R2 := fun f => N.lw.contains f = true
 Z2 := fun _ => False
 D2 := ypl N.lw.contains
 E2 := ypl N.lw.contains
 pair2 := seat_pair2 h
 apart := fun f hr hn => hn hr
 none2 := fun _ _ h => h
 body2 := by simp only [yev, Bool.and_eq_true] at h; exact h.1.2.1
 owns := seat_owns h
theorem Seat.not_odd {f : Nat} {fn : Func} (hf : P.funcs[f]? = some fn) (h : (f == A.fPulls || N.ms.contains f || A.gone f || fn.body.isNone) = false) : ¬ Odds P A N f := by
 simp only [Bool.or_eq_false_iff, beq_eq_false_iff_ne] at h
 rintro ((e | e) | ⟨_, fn', hf', e⟩)
 ·exact h.1.1.1 e
 ·rw [h.1.1.2] at e; cases e
 ·rw [hf] at hf'
  cases hf'
  rw [h.1.2, h.2] at e
  cases e
end
end Go.Sim
