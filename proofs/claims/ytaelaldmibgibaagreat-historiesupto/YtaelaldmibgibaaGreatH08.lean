/- From contracts of the second program's, alone, to the first one's run in company. A contract of one program's is one of another's, that has the same functions on a set that calls by name within it. A seat's program and its twin: what is to be reckoned of the program's text. -/
import Derived.Test.YtaelaldmibgibaaGreatH07
import Derived.Conc.LeavingOf

set_option linter.unusedVariables false
set_option linter.unusedSimpArgs false
set_option linter.unusedSectionVars false

namespace Go.Sim
open Go.Conc Go.RowKit
def calm (W : World) : World := { W with heap := W.heap.map Obj.tamed }
theorem calm_same (W : World) : yhl (fun _ => False) W (calm W) :=
 ⟨by simp [calm], fun b _ => by simp [calm], fun _ h => h.elim, rfl, rfl⟩
theorem ymr (W : World) : ybf (calm W) := fun b o h => by
 simp only [calm, Array.getElem?_map, Option.map_eq_some_iff] at h
 obtain ⟨x, _, rfl⟩ := h
 exact yeo x
structure ygf (W w : World) : Prop where
 size : W.heap.size ≤ w.heap.size
 old : ∀ b, b < W.heap.size → w.heap[b]? = W.heap[b]?
 os : w.os = W.os
 output : w.output = W.output
theorem ypn {o o' : Obj} (hf : o'.fit = true) (h : o'.tamed = o.tamed) : o' = o := by
 rw [yhb (fit_odd hf)] at h
 cases ho : o.odd with
 |false => rw [yhb ho] at h; exact h
 |true =>
  exfalso
  simp only [Obj.tamed, ho, if_true] at h
  subst h
  cases o <;> first | (cases ho; done) | (cases hf; done)
theorem still_back {X : Nat → Prop} {W w v : World} (hs : yhl X w v) (hk : yir X W w) (h : ygf (calm W) v) : ygf W w := by
 refine ⟨hk.size, fun b hb => ?_, hs.os.symm.trans h.os, hs.output.symm.trans h.output⟩
 have hX : ¬ X b := fun hx => by have := hk.new b hx; omega
 have h1 := hs.same b hX
 have h2 := h.old b (by simpa [calm] using hb)
 obtain ⟨o, ho⟩ : ∃ o, W.heap[b]? = some o := ⟨W.heap[b], Array.getElem?_eq_getElem hb⟩
 rw [ho]
 rcases hk.odd b o ho with e | ⟨o', e, hf⟩
 ·exact e
 ·rw [e]
  simp only [calm, Array.getElem?_map, ho, Option.map_some] at h2
  rw [h2, e, Option.map_some, Option.some.injEq] at h1
  rw [ypn hf h1.symm]
theorem ynk {X : Nat → Prop} {L : Lim} {w w' v : World} (h : Rel X L w v) (h' : Rel X L w' v) (hg : ycs X w w') : w' = w := by
 refine ymc ?_ (h'.tw.trans h.tw.symm) (by have := h.cnt; have := h'.cnt; omega) (h'.os.symm.trans h.os) (h'.output.symm.trans h.output)
 apply Array.ext_getElem?
 intro b
 have hsz : w'.heap.size = w.heap.size := h'.size.symm.trans h.size
 cases ho : w.heap[b]? with
 |none =>
  have := Array.getElem?_eq_none_iff.1 ho
  exact Array.getElem?_eq_none_iff.2 (by omega)
 |some o =>
  rcases hg.odd b o ho with e | ⟨o', e, hf⟩
  ·exact e
  ·by_cases hX : X b
   ·rw [← ho]; exact hg.keep b hX
   ·have h1 := h.same b hX
    have h2 := h'.same b hX
    rw [h1, ho, e, Option.map_some, Option.map_some, Option.some.injEq] at h2
    rw [e, ypn hf h2.symm]
structure Seat (P : Program) (A : PL) : Type where
 lib : yrg P A
 whole : Whole (twin P A)
 Z : Nat → Prop
 D : Nat → Prop
 pair : yjy P (twin P A) (ydf (twin P A)) (fun _ => True) Z D yez
 dead : ∀ f, Z f → Dead (twin P A) f
 gone : ∀ f, D f → f = A.fPulls ∨ Dead (twin P A) f
 ok2 : Op → Bool
 R2 : Nat → Prop
 Z2 : Nat → Prop
 D2 : Nat → Prop
 E2 : Nat → Prop
 pair2 : yjy P (twin P A) ok2 R2 Z2 D2 E2
 apart : ∀ f, R2 f → ¬ D2 f
 none2 : ∀ f, R2 f → ¬ Z2 f
 body2 : R2 A.fBody
 owns : Owns P A.fBody
theorem fine_evL {X : Nat → Prop} {Shun : Loc → Prop} {B : Nat} {es : Array Event} (hS : ∀ l, Shun l → ∃ a, l = .cell a ∧ X a.block) (he : ∀ e ∈ es, yjj X B e) : ∀ e ∈ es, EvL Shun B e := by
 intro e hm
 have hf := he e hm
 obtain ⟨loc, x, y⟩ := e
 have hl : ∀ m : Mark, loc = .mark m → yij m = true := by rintro m rfl; exact hf
 have he' : ∀ e ∈ #[(⟨loc, x, y⟩ : Event)], yjj (fun b => X b ∨ b = B) B e := by
  intro e hm
  obtain rfl := List.mem_singleton.1 (Array.mem_toList_iff.2 hm)
  cases loc with
  |cell a => exact ⟨fun x => x.elim hf.1 (fun y => by have := hf.2; omega), hf.2⟩
  |obj r => exact ⟨fun x => x.elim hf.1 (fun y => by have := hf.2; omega), hf.2⟩
  |mark m => exact hf
  |output => trivial
  |goroutines => exact hf.elim
 have hS' : ∀ l, Shun l → ∃ a, l = .cell a ∧ (X a.block ∨ a.block = B) := fun l hl => by
  obtain ⟨a, ha, hx⟩ := hS l hl
  exact ⟨a, ha, .inl hx⟩
 have ho := ycw (Wg := B) (Shun := Shun) (g := 0) (fn := 0) (pos := "") (.inr rfl) hS' he'
 have hmem : ({ g := 0, fn := 0, pos := "", act := .ofEvent ⟨loc, x, y⟩ } : MemOp) ∈ MemOp.ofEvents 0 0 "" #[(⟨loc, x, y⟩ : Event)] := by simp [MemOp.ofEvents]
 have := ho _ hmem
 refine ⟨fun b hb hs => ((this.1 b hb).1) hs, ?_, ?_, this.2.1⟩
 ·rintro rfl; exact absurd (hl _ rfl) (by decide)
 ·rintro rfl; exact absurd (hl _ rfl) (by decide)
section
variable {P : Program} {A : PL}
theorem yng : ∀ (n k : Nat) (m m' : Machine) (t t' : Trace), runNT P n m t = (.next m', t') → runNT P (n + k) m t = runNT P k m' t' := by
 intro n
 induction n with
 |zero => intro k m m' t t' h; simp only [runNT, Prod.mk.injEq, Stepped.next.injEq] at h; rw [Nat.zero_add, h.1, h.2]
 |succ n ih =>
  intro k m m' t t' h
  rw [show n + 1 + k = (n + k) + 1 by omega]
  simp only [runNT] at h ⊢
  generalize stepT P m = x at h
  obtain ⟨x, ops⟩ := x
  cases x with
  |next m1 => exact ih k m1 m' _ t' h
  |ended o w => cases h
theorem yik {Q : Program} {m m' : Machine} (h : Steps Q m m') : ∃ n, runN Q n m = .next m' := h
theorem leaving_of_calls (S : Seat P A) {f : Nat} {fn : Func} {args : Array Value} {W : World} {x : Value} (hfn : (twin P A).funcs[f]? = some fn) (hsame : P.funcs[f]? = (twin P A).funcs[f]?) (hi : P.inits.idxOf? f = none)
  (h : ∀ τ, Calls (twin P A) f args ((calm W).tp τ) (fun e w' => e = .returned x ∧ ygf (calm W) w')) :
  ∃ M last o w' t', runNT P (M + 1) (solo (G (Frame.enter P f args .normal) []) W) #[] = (.ended o w', t') ∧ runN P M (solo (G (Frame.enter P f args .normal) []) W) = .next last ∧
    step P last = .ended o w' ∧ Conc.Good P (fun v W' => v = x ∧ ygf W W') last o w' t' := by
 have hok : Sta.Ok (twin P A) ⟨Frame.enter (twin P A) f args .normal, [], calm W⟩ :=
  ⟨ykf S.whole.pair.code S.whole.pair.subE trivial (fun h => h.elim) hfn, .inl rfl, fun _ h => by simp at h, ymr W⟩
 have ht := yrd S.whole (Stop' := fun fr w' => fr.fn = f ∧ fr.leaving (twin P A) w' (.returned x) ∧ ygf (calm W) w') hok (fun τ => by
  obtain ⟨e, w', fr, ⟨rfl, hst⟩, hc, hfr, hlv⟩ := h τ [yde]
  obtain ⟨n, hn⟩ := yik hc
  exact ⟨n, fr, w', hn, hlv.1, hfr, hlv, hst⟩)
 have hC := carry S.pair S.dead S.gone (phase S.lib S.pair S.pair2 S.apart S.none2 S.body2 S.owns W) ht hok
 have hen : Frame.enter P f args .normal = Frame.enter (twin P A) f args .normal := ygu hsame
 rw [hen]
 obtain ⟨N, gs, w, sl, T, hrun, fr, v, X, Shun, q, h0, hm, hd, hk, hL, hP, hSm, hKp, hS, τ, hff, hlv, hst⟩ := hC (fun _ => False) (fun _ => False) 1 W (by omega) (fun _ h => h.elim) (calm_same W) (yir.refl W) #[gor (Frame.enter (twin P A) f args .normal) []] none #[] (fun _ => 0) rfl rfl (leavers_one P _) (past_nil.mono (Nat.zero_le _))
 obtain ⟨_, _, _, fn', hfn', hres⟩ := hlv
 rw [hff] at hfn'
 obtain rfl : fn = fn' := Option.some.inj (hfn.symm.trans hfn')
 have hfin : ∀ d, ∃ es, stepG P true (gor fr []) (w.at d) = .ended (.done x) (w.at d) es ∧ ∀ e ∈ es, EvL Shun w.heap.size e := by
  intro d
  have hSd := hSm.at d
  have hR : Rel X ⟨v.drawn, (w.at d).drawn, v.drawn, (w.at d).tape, τ⟩ (w.at d) (v.tp τ) :=
   ⟨hSd.size, hSd.same, hSd.bare, hSd.os, hSd.output, fun i hi => absurd (show v.drawn + i < v.drawn from hi) (by omega), Nat.add_comm .., rfl, rfl⟩
  have hs := zex (Esc := fun _ => False) (X := X) S.pair.tables fn fr.tmps _ _ _ #[] hR
  rw [hres] at hs
  rcases hs (Nat.le_refl _) with q | ⟨w1, new, e, hR1, hz, hfn1⟩
  ·exact q.elim
  ·obtain rfl := ynk hR hR1 hz
   rw [Array.empty_append] at e
   have hPf : P.funcs[fr.fn]? = some fn := by rw [hff, hsame]; exact hfn
   have e2 := ydv (cs := []) P true (w.at d) hm
   unfold unwind at e2
   simp only [hd, hm, hPf, e] at e2
   unfold doReturn at e2
   simp only [hk, hff, hi] at e2
   refine ⟨_, e2.trans rfl, ?_⟩
   rw [Array.append_empty]
   exact fine_evL hS (yfd hfn1)
 have := beside_ends (P := P) (Shun := Shun) (B := w.heap.size) (D := fun _ _ _ => False) (Post := fun v W' => v = x ∧ ygf W W') (fun _ _ _ h => h.elim) (sl := sl) (n := 0) (w := w) h0 hL hP (fun w1 hw1 => by
  obtain ⟨d, rfl⟩ := hw1
  obtain ⟨es, e, he⟩ := hfin d
  exact ⟨rfl, x, es, e, he, rfl, still_back (hSm.at d) (hKp.at d) ⟨hst.size, hst.old, hst.os, hst.output⟩⟩)
 obtain ⟨M, last, o, w', t', h1, h2, h3, h4⟩ := this
 refine ⟨N + M, last, o, w', t', ?_, ?_, h3, h4⟩
 ·rw [Nat.add_assoc]
  exact (yng N (M + 1) _ _ _ _ hrun).trans h1
 ·have := congrArg Prod.fst (yng N M _ _ _ _ hrun)
  rw [runNT_fst, runNT_fst] at this
  exact this.trans h2
end
end Go.Sim
#print axioms Go.Sim.leaving_of_calls

namespace Go.Sim
open Go.Conc Go.RowKit
structure Shared (P Q : Program) (R : Nat → Bool) : Prop where
 tables : P.toTables = Q.toTables
 ownP : ∀ f, R f = true → Owns P f
 same : ∀ f, R f = true → P.funcs[f]? = Q.funcs[f]?
 code : ∀ (f : Nat) fn c, R f = true → P.funcs[f]? = some fn → fn.body = some c → ych (fun o => ydf P o && ydi R o) c = true
theorem yqf {P Q : Program} (h : P.toTables = Q.toTables) (o : Op) : ydf P o = ydf Q o := by
 have : ∀ t, P.underlying t = Q.underlying t := fun t => by simp only [Program.underlying, h]
 cases o <;> simp only [ydf, this]
section
variable {P Q : Program} {R : Nat → Bool}
abbrev okR (P : Program) (R : Nat → Bool) : Op → Bool := fun o => ydf P o && ydi R o
abbrev ync (R : Nat → Bool) : Nat → Prop := fun f => ¬ R f = true
theorem Shared.ownQ (H : Shared P Q R) (f : Nat) (h : R f = true) : Owns Q f := by
 obtain ⟨fn, h1, h2⟩ := H.ownP f h
 exact ⟨fn, (H.same f h).symm.trans h1, h2⟩
theorem Shared.to (H : Shared P Q R) : yjy Q P (okR P R) (fun f => R f = true) (fun _ => False) (ync R) (ync R) :=
 yjy.static H.tables.symm H.ownQ H.ownP (fun f h => (H.same f h).symm) H.code (E := ync R) (fun f h => Classical.byContradiction h)
theorem Shared.back (H : Shared P Q R) : yjy P Q (okR P R) (fun f => R f = true) (fun _ => False) (ync R) (ync R) := by
 have e : okR P R = (fun o => ydf Q o && ydi R o) := funext fun o => by show (ydf P o && ydi R o) = _; rw [yqf H.tables]
 rw [e]
 refine yjy.static H.tables H.ownP H.ownQ H.same (fun f fn c h h1 h2 => ?_) (E := ync R) (fun f h => Classical.byContradiction h)
 rw [← e]
 exact H.code f fn c h ((H.same f h).trans h1) h2
theorem yjs.swap (H : Shared P Q R) {fr : Frame} (h : yjs P (okR P R) (ync R) fr) : yjs Q (okR P R) (ync R) fr := by
 obtain ⟨fn, h1, _⟩ := H.ownQ fr.fn (Classical.byContradiction h.fn)
 exact ⟨h.items, h.defers, h.kind, h.round, h.fn, (Array.getElem?_eq_some_iff.1 h1).1⟩
theorem Shared.step (H : Shared P Q R) {fr : Frame} {inner sP sQ : List Frame} {v v' : World} {g' : Goroutine} {es : Array Event} (hf : yjs P (okR P R) (ync R) fr) (hm : fr.mode = .run ∨ fr.mode = .returning) (hc : OkCs P (okR P R) (ync R) inner) (hne : fr.mode = .returning → inner ≠ []) (hv : ybf v)
  (h : stepG P true (gor fr (inner ++ sP)) v = .go g' v' es) :
  (∃ fr' ch, fr'.mode = .panicking ch ∧ fr'.defers = [] ∧ g' = gor fr' (inner ++ sP)) ∨
  ∃ fr' inner', yjs P (okR P R) (ync R) fr' ∧ (fr'.mode = .run ∨ fr'.mode = .returning) ∧ OkCs P (okR P R) (ync R) inner' ∧ ybf v' ∧ g' = gor fr' (inner' ++ sP) ∧ ∃ es', stepG Q true (gor fr (inner ++ sQ)) v = .go (gor fr' (inner' ++ sQ)) v' es' := by
 have hR : Rel yez ⟨v'.drawn, 0, 0, v.tape, v.tape⟩ v v := ykj hv v.tape v.tape v'.drawn (fun _ _ _ => rfl)
 rcases zfo (m := true) (sP := sQ) (sQ := sP) H.to hf hm hc hne hR h (Nat.le_refl _) with ⟨f, args, _, hz, _⟩ | ⟨w', es', hR', _, _, hcase⟩ | hp
 ·exact hz.elim
 ·rcases hcase with ⟨fr', inner', hf', hm', hc', hg', hP⟩ | ⟨f, args, hr, hd, _⟩
  ·obtain ⟨b1, d1, tw1, tv1, o1, p1⟩ := yki hR'
   have hcQ : OkCs Q (okR P R) (ync R) inner := fun c h => ⟨(hc c h).1.swap H, (hc c h).2⟩
   rcases zfo (m := true) (sP := sP) (sQ := sQ) H.back (hf.swap H) hm hcQ hne hR hP (Nat.le_of_eq d1.symm) with ⟨f, args, _, hz, _⟩ | ⟨w2, es2, hR3, _, _, hcase2⟩ | ⟨fr2, ch, hp, _, hg2⟩
   ·exact hz.elim
   ·obtain ⟨b2, _, _, _, _, _⟩ := yki hR3
    have hw2 : w2 = v' := by
     rcases hcase2 with ⟨fr2, inner2, _, _, _, hg2, hP2⟩ | ⟨f, args, hr, hd, _⟩
     ·rw [h] at hP2
      cases hP2
      rfl
     ·exact absurd hr hd
    subst hw2
    have heap : w'.heap = w2.heap := by
     apply Array.ext_getElem?
     intro b
     have e1 := b1 b
     have e2 := b2 b
     have : Obj.tamed ∘ Obj.tamed = Obj.tamed := funext yeo
     exact e2.trans (by rw [e1, Option.map_map, this])
    have hfix : ybf w2 := fun b o ho => by
     have := b1 b
     rw [ho] at this
     cases hw : w'.heap[b]? with
     |none => rw [hw] at this; cases this
     |some x =>
      rw [hw, Option.map_some, Option.some.injEq] at this
      rw [this]; exact yeo x
    have hww : w' = w2 := ymc heap (tw1.trans tv1.symm) d1.symm o1.symm p1.symm
    rw [hww] at hP
    exact .inr ⟨fr', inner', hf', hm', hc', hfix, hg', es', hP⟩
   ·have : fr' = fr2 := congrArg Goroutine.frame hg2
    subst this
    rcases hm' with q | q <;> (rw [q] at hp; cases hp)
  ·exact absurd hr hd
 ·exact .inl hp
theorem Shared.run (H : Shared P Q R) {cs : List Frame} : ∀ (n : Nat) (fr : Frame) (inner : List Frame) (v : World) (fr' : Frame) (v' : World), yjs P (okR P R) (ync R) fr → (fr.mode = .run ∨ fr.mode = .returning) → OkCs P (okR P R) (ync R) inner → ybf v →
  runN P n (lone fr (inner ++ [yde]) v) = .next (lone fr' [yde] v') → fr'.mode = .returning → ybf v' ∧ runN Q n (lone fr (inner ++ cs) v) = .next (lone fr' cs v')
 |0, fr, inner, v, fr', v', hf, hm, hc, hv, h, hr => by
  simp only [runN, Stepped.next.injEq] at h
  obtain ⟨rfl, e, rfl⟩ := yoj h
  have : inner = [] := by
   have := congrArg List.length e
   simp at this
   exact this
  subst this
  exact ⟨hv, rfl⟩
 |n + 1, fr, inner, v, fr', v', hf, hm, hc, hv, h, hr => by
  have hne : fr.mode = .returning → inner ≠ [] := by
   rintro hm rfl
   exact yld hf hm n h
  rcases yje (ok := okR P R) H.to.ends (cs := inner ++ [yde]) (v := v) hv.tame hf hm with ⟨g, w, es, h1, _⟩ | ⟨o, w, es, h1⟩
  ·rcases H.step (sQ := cs) hf hm hc hne hv h1 with ⟨fr1, ch, hp, hd, hg⟩ | ⟨fr1, inner1, hf1, hm1, hc1, hv1, hg, es', hQ⟩
   ·subst hg
    have e2 := ygo h1
    simp only [runN, e2] at h
    exact (yhr n inner fr1 w ch fr' [yde] v' hp hd (fun c hcc => ⟨(hc c hcc).1.defers, (hc c hcc).2⟩) h hr).elim
   ·subst hg
    have e2 := ygo h1
    simp only [runN, e2] at h
    obtain ⟨hv', h'⟩ := Shared.run H n fr1 inner1 w fr' v' hf1 hm1 hc1 hv1 h hr
    refine ⟨hv', ?_⟩
    have e3 := ygo hQ
    simp only [runN, e3]
    exact h'
  ·exact (yeh (yef h1) n h).elim
theorem Shared.calls (H : Shared P Q R) {f : Nat} {args : Array Value} {v : World} {Po : Ending → World → Prop} (hf : R f = true) (hv : ybf v) (h : Calls P f args v Po) (hPo : ∀ e w', Po e w' → ∃ x, e = .returned x) : Calls Q f args v (fun e w' => Po e w' ∧ ybf w') := by
 intro cs
 obtain ⟨e, w', fr, hpo, hcm, hff, hlv⟩ := h [yde]
 obtain ⟨x, rfl⟩ := hPo e w' hpo
 obtain ⟨n, hn⟩ := yik hcm
 obtain ⟨fn, hfn, _⟩ := H.ownP f hf
 have hok : yjs P (okR P R) (ync R) (Frame.enter P f args .normal) := ykf (Rr := fun f => R f = true) (D := ync R) (E := ync R) (fun f fn c h _ h1 h2 => H.code f fn c h h1 h2) (fun _ h => h) hf (fun h => h hf) hfn
 have hrun := H.run (cs := cs) n _ [] v fr w' hok (.inl rfl) (fun _ h => by simp at h) hv hn hlv.1
 rw [ygu (H.same f hf)] at hrun
 refine ⟨.returned x, w', fr, ⟨hpo, hrun.1⟩, ⟨n, hrun.2⟩, hff, ?_⟩
 obtain ⟨h1, h2, h3, fn', h4, h5⟩ := hlv
 refine ⟨h1, h2, h3, fn', by rw [hff, ← H.same f hf, ← hff]; exact h4, ?_⟩
 have hR : Rel yez ⟨w'.drawn, 0, 0, w'.tape, w'.tape⟩ w' w' := ykj hrun.1 w'.tape w'.tape w'.drawn (fun _ _ _ => rfl)
 have hs := zex (P := Q) (Q := P) (Esc := fun _ => False) (X := yez) H.tables.symm fn' fr.tmps _ _ _ #[] hR
 rw [h5] at hs
 rcases hs (Nat.le_refl _) with q | ⟨w1, new, e, hR1, hz, _⟩
 ·exact q.elim
 ·obtain rfl := ynk hR hR1 hz
  have := yfw Q (results fn' fr.tmps) w1 #[]
  rw [e] at this
  exact this.symm
end
end Go.Sim
#print axioms Go.Sim.Shared.calls

namespace Go.Sim
open Go.Conc Go.RowKit
def yhh (fn : Func) : Bool := !(fn.name == "runtime.NumGoroutine")
def fnOk (P : Program) (A : PL) (l : List Nat) (f : Nat) (fn : Func) : Bool :=
 (f == A.fPulls || A.gone f || match fn.body with
  |some c => yhh fn && ych (ydf P) c
  |none => true) &&
 (!l.contains f || match fn.body with
  |some c => yhh fn && !(f == A.fPulls) && !A.gone f && ych (fun o => ydf P o && ydi l.contains o) c
  |none => false)
def ygr (P : Program) (A : PL) (l : List Nat) : Bool :=
 ((List.range P.funcs.size).all fun f => match P.funcs[f]? with
  |some fn => fnOk P A l f fn
  |none => false) && ych (ydf P) (yhc A) && l.contains A.fBody && l.all (· < P.funcs.size)
section
variable {P : Program} {A : PL} {l : List Nat}
theorem ytf (h : ygr P A l = true) {f : Nat} {fn : Func} (hf : P.funcs[f]? = some fn) : fnOk P A l f fn = true := by
 simp only [ygr, Bool.and_eq_true, List.all_eq_true] at h
 have := h.1.1.1 f (List.mem_range.2 (Array.getElem?_eq_some_iff.1 hf).1)
 rw [hf] at this
 exact this
theorem ypd {f : Nat} : (twin P A).funcs[f]? = (P.funcs[f]?).map (yip A f) := by
 simp [twin]
theorem ykl {f : Nat} {fq : Func} (h : (twin P A).funcs[f]? = some fq) : ∃ fn, P.funcs[f]? = some fn ∧ fq = yip A f fn := by
 rw [ypd, Option.map_eq_some_iff] at h
 obtain ⟨fn, h1, h2⟩ := h
 exact ⟨fn, h1, h2.symm⟩
theorem ygb : P.toTables = (twin P A).toTables := rfl
theorem twin_ok : ydf (twin P A) = ydf P := funext fun o => (yqf ygb o).symm
theorem ynn (h : ygr P A l = true) : Whole (twin P A) := by
 refine ⟨fun f fq hq => ?_, fun f fq c hq hc => ?_⟩
 ·obtain ⟨fn, hf, rfl⟩ := ykl hq
  unfold yip
  by_cases e : f = A.fPulls
  ·rw [if_pos e]
   exact ⟨rfl, rfl⟩
  ·rw [if_neg e]
   by_cases e2 : (A.gone f || fn.body.isNone) = true
   ·rw [if_pos e2]
    exact ⟨rfl, rfl⟩
   ·rw [if_neg e2]
    have := ytf h hf
    simp only [fnOk, Bool.and_eq_true, Bool.or_eq_true] at this
    simp only [Bool.or_eq_true, not_or] at e2
    cases hb : fn.body with
    |none => rw [hb] at e2; exact absurd rfl e2.2
    |some c =>
     refine ⟨rfl, ?_⟩
     rcases this.1 with (q | q) | q
     ·exact absurd (by simpa using q) e
     ·exact absurd q e2.1
     ·rw [hb] at q
      simp only [Bool.and_eq_true, yhh, Bool.not_eq_true'] at q
      exact q.1
 ·rw [twin_ok]
  obtain ⟨fn, hf, rfl⟩ := ykl hq
  unfold yip at hc
  by_cases e : f = A.fPulls
  ·rw [if_pos e] at hc
   simp only [ygr, Bool.and_eq_true] at h
   cases hc
   exact h.1.1.2
  ·rw [if_neg e] at hc
   by_cases e2 : (A.gone f || fn.body.isNone) = true
   ·rw [if_pos e2] at hc
    cases hc
    rfl
   ·rw [if_neg e2] at hc
    have := ytf h hf
    simp only [fnOk, Bool.and_eq_true, Bool.or_eq_true] at this
    simp only [Bool.or_eq_true, not_or] at e2
    rcases this.1 with (q | q) | q
    ·exact absurd (by simpa using q) e
    ·exact absurd q e2.1
    ·rw [hc] at q
     simp only [Bool.and_eq_true] at q
     exact q.2
def Gone (P : Program) (A : PL) (f : Nat) : Prop := f ≠ A.fPulls ∧ ∃ fn, P.funcs[f]? = some fn ∧ (A.gone f || fn.body.isNone) = true
theorem yiq {f : Nat} (h1 : f ≠ A.fPulls) (h2 : ¬ Gone P A f) : P.funcs[f]? = (twin P A).funcs[f]? := by
 rw [ypd]
 cases hf : P.funcs[f]? with
 |none => rfl
 |some fn =>
  rw [Option.map_some]
  unfold yip
  rw [if_neg h1, if_neg]
  intro e
  exact h2 ⟨h1, fn, hf, e⟩
theorem twin_pair (H : yrg P A) (h : ygr P A l = true) : yjy P (twin P A) (ydf (twin P A)) (fun _ => True) (Gone P A) (fun f => f = A.fPulls ∨ Gone P A f) yez := by
 have W := ynn h
 have T : Twin P (twin P A) (Gone P A) := by
  refine ⟨ygb, by simp [twin], W.bodied, fun f fq hz hq => ?_⟩
  obtain ⟨fn, hf, rfl⟩ := ykl hq
  refine ⟨fn, hf, ?_⟩
  by_cases e : f = A.fPulls
  ·subst e
   rw [H.pulls] at hf
   cases hf
   exact ⟨rfl, rfl⟩
  ·have := yiq e hz
   rw [hf] at this
   exact W.bodied f fn this.symm
 refine ⟨ygb, fun X fr o ho => zbw T fr.eval o ho, W.ends, fun fr o f args v v' ho hv e => ⟨trivial, yib W.bodied hv fr.eval o ho _ v' e⟩, fun f _ hd => ?_, fun f fn c _ _ h1 h2 => W.code f fn c h1 h2, fun f hz => .inr hz, fun _ h => h.elim, fun f fq _ hq => ?_⟩
 ·exact yiq (fun e => hd (.inl e)) (fun e => hd (.inr e))
 ·obtain ⟨fn, hf, rfl⟩ := ykl hq
  refine ⟨fn, hf, ?_⟩
  unfold yip
  by_cases e : f = A.fPulls
  ·rw [if_pos e]
   subst e
   rw [H.pulls] at hf
   cases hf
   rfl
  ·rw [if_neg e]
   split <;> rfl
theorem ypv {f : Nat} (h : Gone P A f) : Dead (twin P A) f := by
 obtain ⟨h1, fn, hf, h2⟩ := h
 refine ⟨deadFn fn, "twin", ?_, rfl⟩
 rw [ypd, hf, Option.map_some]
 unfold yip
 rw [if_neg h1, if_pos h2]
theorem yhs (h : ygr P A l = true) : Shared P (twin P A) l.contains := by
 have key : ∀ f, l.contains f = true → ∃ fn c, P.funcs[f]? = some fn ∧ fn.body = some c ∧ yhh fn = true ∧ f ≠ A.fPulls ∧ A.gone f = false ∧ ych (fun o => ydf P o && ydi l.contains o) c = true := by
  intro f hl
  have hs : f < P.funcs.size := by
   simp only [ygr, Bool.and_eq_true, List.all_eq_true, decide_eq_true_eq] at h
   exact h.2 f (by simpa using hl)
  have hf : P.funcs[f]? = some P.funcs[f] := Array.getElem?_eq_getElem hs
  have := ytf h hf
  simp only [fnOk, Bool.and_eq_true, hl, Bool.not_true, Bool.false_or] at this
  cases hb : P.funcs[f].body with
  |none => rw [hb] at this; exact absurd this.2 (by simp)
  |some c =>
   rw [hb] at this
   have q := this.2
   simp only [Bool.and_eq_true, Bool.not_eq_true', beq_eq_false_iff_ne] at q
   exact ⟨_, c, hf, hb, q.1.1.1, q.1.1.2, q.1.2, q.2⟩
 refine ⟨ygb, fun f hl => ?_, fun f hl => ?_, fun f fn c hl hf hb => ?_⟩
 ·obtain ⟨fn, c, h1, h2, h3, _⟩ := key f hl
  exact ⟨fn, h1, by rw [h2]; rfl, by simpa [yhh] using h3⟩
 ·obtain ⟨fn, c, h1, h2, h3, h4, h5, _⟩ := key f hl
  refine yiq h4 (fun g => ?_)
  obtain ⟨_, fn', h1', this⟩ := g
  rw [h1] at h1'
  cases h1'
  rw [h5, h2] at this
  cases this
 ·obtain ⟨fn', c', h1, h2, h3, h4, h5, h6⟩ := key f hl
  rw [hf] at h1
  cases h1
  rw [hb] at h2
  cases h2
  exact h6
def Seat.of (H : yrg P A) (h : ygr P A l = true) : Seat P A where
 lib := H
 whole := ynn h
 Z := Gone P A
 D := fun f => f = A.fPulls ∨ Gone P A f
 pair := twin_pair H h
 dead := fun f hz => ypv hz
 gone := fun f hd => hd.imp id ypv
 ok2 := okR P l.contains
 R2 := fun f => l.contains f = true
 Z2 := fun _ => False
 D2 := ync l.contains
 E2 := ync l.contains
 pair2 := (yhs h).back
 apart := fun f hr hn => hn hr
 none2 := fun _ _ h => h
 body2 := by simp only [ygr, Bool.and_eq_true] at h; exact h.1.2
 owns := (yhs h).ownP _ (by simp only [ygr, Bool.and_eq_true] at h; exact h.1.2)
end
end Go.Sim
