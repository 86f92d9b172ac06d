/- A lone run: each step of code that is let by goes on or ends. -/
import Derived.Calls
import Derived.Test.YtaelaldmibgibaaGreatDoorX17

set_option linter.all false

namespace Go.Sim
variable {Q : Program}
def Plain (v : World) (x : GStep) : Prop := (∃ g w es, x = .go g w es ∧ v.drawn ≤ w.drawn) ∨ (∃ o w es, x = .ended o w es)
theorem Plain.go {v : World} (g : Goroutine) (w : World) (es : Array Event) (h : v.drawn ≤ w.drawn := by exact Nat.le_refl _) : Plain v (.go g w es) := .inl ⟨_, _, _, rfl, h⟩
theorem Plain.ended {v : World} (o : Outcome) (w : World) (es : Array Event) : Plain v (.ended o w es) := .inr ⟨_, _, _, rfl⟩
theorem Plain.after {v : World} {x : GStep} (h : Plain v x) (l : Array Event) : Plain v (GStep.after l x) := by
 rcases h with ⟨_, _, _, rfl, h⟩ | ⟨_, _, _, rfl⟩
 ·exact .go _ _ _ h
 ·exact .ended _ _ _
theorem Plain.mono {v u : World} {x : GStep} (h : Plain u x) (hu : v.drawn ≤ u.drawn) : Plain v x := by
 rcases h with ⟨_, _, _, rfl, h⟩ | ⟨_, _, _, rfl⟩
 ·exact .go _ _ _ (Nat.le_trans hu h)
 ·exact .ended _ _ _
theorem early_plain (p : Program) (fr : Frame) (cs : List Frame) (d : Option Dying) (g : Nat) (w : World) : Plain w (early p fr cs d g w) := by
 have h : (∃ g' w' es, early p fr cs d g w = .go g' w' es) ∨ (∃ o w' es, early p fr cs d g w = .ended o w' es) := by
  unfold early
  dsimp only
  repeat' split
  all_goals first | exact .inl ⟨_, _, _, rfl⟩ | exact .inr ⟨_, _, _, rfl⟩
 rcases h with ⟨_, _, _, h⟩ | h
 ·exact .inl ⟨_, _, _, h, ypb h⟩
 ·exact .inr h
theorem fatal_plain (p : Program) (fr : Frame) (cs : List Frame) (d : Option Dying) (m : String) (w : World) : Plain w (endFatal p fr cs d m w) := by
 have h : (∃ g' w' es, endFatal p fr cs d m w = .go g' w' es) ∨ (∃ o w' es, endFatal p fr cs d m w = .ended o w' es) := by
  unfold endFatal
  dsimp only
  split
  ·unfold dieOf; exact .inl ⟨_, _, _, rfl⟩
  ·exact .inr ⟨_, _, _, rfl⟩
  ·exact .inr ⟨_, _, _, rfl⟩
 rcases h with ⟨_, _, _, h⟩ | h
 ·exact .inl ⟨_, _, _, h, ypc h⟩
 ·exact .inr h
theorem apply_plain {p : Program} {fr : Frame} {cs : List Frame} {s : Sem Next} {w : World} {ops : Array Oper} {l : List Nat} {k : List Item} (ht : fr.todo = .inRegion ops l :: k) (hn : ∀ a w', s.run p w = .ok a w' → okN a) : Plain w (stepG.apply p true fr cs none s w) := by
 have e1 := yig p s w #[]
 have e2 := yet p s w
 unfold stepG.apply
 simp only [if_true]
 generalize s.runT p w #[] = r at e1
 obtain ⟨r, es⟩ := r
 dsimp only at e1 ⊢
 rw [← e1] at e2
 refine Plain.after ?_ _
 cases r with
 |ok a w' =>
  have hn' := hn a w' e1.symm
  have e2 : w.drawn ≤ w'.drawn := e2
  cases a <;> first | exact hn'.elim | exact .go _ _ _ e2 | skip
  dsimp only
  split <;> exact .go _ _ _ e2
 |halt y w' =>
  have e2 : w.drawn ≤ w'.drawn := e2
  cases y with
  |unsupported u => cases u <;> first | exact .ended _ _ _ | exact (early_plain _ _ _ _ _ _).mono e2
  |fatal m => exact (fatal_plain _ _ _ _ _ _).mono e2
  |throw m => unfold endThrow dieOf; exact .go _ _ _ e2
  |_ => first | exact .go _ _ _ e2 | exact .ended _ _ _
theorem ykh (p : Program) (m : Bool) (fr : Frame) (cs : List Frame) (d : Option Dying) (v : Value) (w : World) : Plain w (doReturn p m fr cs d v w) := by
 unfold doReturn
 repeat' split
 all_goals first | exact .go _ _ _ | exact .ended _ _ _
theorem ynf {D : Nat → Prop} {ok : Op → Bool} (hends : ∀ (fr : Frame) (o : Oper) v a v', ok o.op = true → Tame v → (execOp fr.eval o).run Q v = .ok a v' → okN a) {fr : Frame} {cs : List Frame} {v : World} (hv : Tame v) (hf : yml Q ok D fr) (hm : fr.mode = .run ∨ fr.mode = .returning) : Plain v (stepG Q true (gor fr cs) v) := by
 rcases hm with hm | hm
 case inr =>
  rw [yey Q true v hm]
  unfold unwind
  simp only [hf.defers, hm]
  split
  ·exact ykh _ _ _ _ _ _ _
  ·next fn _ =>
   refine Plain.after ?_ _
   have e1 := yig Q (results fn fr.tmps) v #[]
   have e2 := yet Q (results fn fr.tmps) v
   generalize (results fn fr.tmps).runT Q v #[] = r at e1
   obtain ⟨r, es⟩ := r
   dsimp only at e1 ⊢
   rw [← e1] at e2
   cases r with
   |ok a w' => exact (ykh _ _ _ _ _ _ _).mono e2
   |halt y w' => cases y <;> exact .ended _ _ _
 rw [yge Q true v hm]
 have hit := hf.items
 cases ht : fr.todo with
 |nil => unfold stepG.exec; simp only [ht, hf.round]; exact .go _ _ _
 |cons it k =>
  rw [ht] at hit
  have hi : ykm ok it = true := by simp only [ybp, List.all_cons, Bool.and_eq_true] at hit; exact hit.1
  cases it with
  |inRangeFunc l => cases hi
  |endRangeFunc l => cases hi
  |beginRound => cases hi
  |call d a b c => cases hi
  |extern a b => cases hi
  |inRegion ops l =>
   cases l with
   |nil => unfold stepG.exec; simp only [ht]; exact .go _ _ _
   |cons i rest =>
    cases hw : ((ops[i]?).map (Region.wanted · (yielded ops fr.tmps))).getD false with
    |false => unfold stepG.exec; simp only [ht, hw]; exact .go _ _ _
    |true =>
     cases ho : ops[i]? with
     |none => rw [ho] at hw; cases hw
     |some o =>
      have hop : fr.oper? = some o := by unfold Frame.oper?; rw [ht]; exact ho
      have hoo : ok o.op = true := by
       have : ops.all (fun o => ok o.op) = true := hi
       rw [Array.all_eq_true] at this
       obtain ⟨hlt, e⟩ := Array.getElem?_eq_some_iff.1 ho
       rw [← e]
       exact this i hlt
      unfold stepG.exec
      simp only [ht, hw, if_true]
      unfold stepG.oper
      simp only [hop, hf.round]
      exact apply_plain ht fun a v' e => hends fr o v a v' hoo hv e
  |code c =>
   cases c with
   |rangeFunc f a b c => cases hi
   |cond c a b => unfold stepG.exec; simp only [ht]; split <;> first | exact .go _ _ _ | exact .ended _ _ _
   |exit id => unfold stepG.exec; simp only [ht, hf.round]; cases exitTo id k <;> simp only [Option.elim] <;> first | exact .go _ _ _ | (split <;> first | exact .go _ _ _ | exact .ended _ _ _)
   |goto id => unfold stepG.exec; simp only [ht, hf.round]; cases gotoIn id k <;> simp only [Option.elim] <;> first | exact .go _ _ _ | (split <;> first | exact .go _ _ _ | exact .ended _ _ _)
   |region id ops draw =>
    cases draw with
    |false => unfold stepG.exec; simp only [ht]; exact .go _ _ _
    |true =>
     unfold stepG.exec
     simp only [ht, Bool.not_true, Bool.false_eq_true, if_false, choose, Sem.run, Question.forced, Question.cut]
     exact .go _ _ _ (Nat.le_succ _)
   |_ => unfold stepG.exec; simp only [ht, hf.round]; first | exact .go _ _ _ | exact .ended _ _ _
  |_ => unfold stepG.exec; simp only [ht]; exact .go _ _ _
def ydu : Frame := { fn := 0, tmps := #[], todo := [.code (.refuse "")], defers := [{ target := .nil, args := #[] }], mode := .run, kind := .normal }
theorem yji {P : Program} {fr fr' : Frame} {cs cs' : List Frame} {w w' : World} {es : Array Event} (h : stepG P true (gor fr cs) w = .go (gor fr' cs') w' es) : step P (lone fr cs w) = .next (lone fr' cs' w') := by
 refine step_lone_go ?_
 have : stepG P true { frame := fr, callers := cs, status := .running, dying := none } w = .go (gor fr' cs') w' es := h
 rw [this]
 rfl
theorem yfm {P : Program} {fr : Frame} {cs : List Frame} {w w' : World} {o : Outcome} {es : Array Event} (h : stepG P true (gor fr cs) w = .ended o w' es) : step P (lone fr cs w) = .ended o w' := by
 refine step_lone_ended ?_
 have : stepG P true { frame := fr, callers := cs, status := .running, dying := none } w = .ended o w' es := h
 rw [this]
 rfl
theorem yfp {P : Program} {m : Machine} {o : Outcome} {w : World} (h : step P m = .ended o w) (n : Nat) {m' : Machine} : runN P (n + 1) m ≠ .next m' := by
 intro e
 simp only [runN, h] at e
 cases e
theorem ykx {P : Program} : ∀ (n : Nat) (inner : List Frame) (fr : Frame) (w : World) (ch : List PanicEntry) (fr' : Frame) (cs' : List Frame) (w' : World), fr.mode = .panicking ch → fr.defers = [] → (∀ c ∈ inner, c.defers = [] ∧ c.mode = .run) →
  runN P n (lone fr (inner ++ [ydu]) w) = .next (lone fr' cs' w') → fr'.mode = .returning → False
 |0, inner, fr, w, ch, fr', cs', w', hm, hd, hc, h, hr => by
  simp only [runN, Stepped.next.injEq] at h
  have := congrArg (fun m : Machine => m.gs[0]?) h
  simp only [lone, List.getElem?_toArray, List.getElem?_cons_zero, Option.some.injEq, Goroutine.mk.injEq] at this
  rw [← this.1, hm] at hr
  cases hr
 |n + 1, inner, fr, w, ch, fr', cs', w', hm, hd, hc, h, hr => by
  have e : stepG P true (gor fr (inner ++ [ydu])) w = unwind P true fr (inner ++ [ydu]) none w := by
   unfold stepG gor
   dsimp only
   rw [hm]
  unfold unwind at e
  simp only [hd, hm] at e
  by_cases hk : fr.catches P = true
  ·rw [if_pos hk] at e
   exact yfp (yfm e) n h
  rw [if_neg hk] at e
  cases inner with
  |cons c rest =>
   simp only [List.cons_append] at e h
   have hcc := hc c (List.mem_cons_self ..)
   have hr' : c.raise ch = { c with mode := .panicking ch } := by unfold Frame.raise; rw [hcc.2]
   rw [hr'] at e
   have e2 := yji (fr' := { c with mode := .panicking ch }) (cs' := rest ++ [ydu]) e
   simp only [runN, e2] at h
   exact ykx n rest { c with mode := .panicking ch } w ch fr' cs' w' rfl hcc.1 (fun x hx => hc x (List.mem_cons_of_mem _ hx)) h hr
  |nil =>
   simp only [List.nil_append] at e h
   have hr' : ydu.raise ch = { ydu with mode := .panicking ch } := rfl
   rw [hr'] at e
   have e2 := yji (fr' := { ydu with mode := .panicking ch }) (cs' := []) e
   simp only [runN, e2] at h
   cases n with
   |zero =>
    simp only [runN, Stepped.next.injEq] at h
    have := congrArg (fun m : Machine => m.gs[0]?) h
    simp only [lone, List.getElem?_toArray, List.getElem?_cons_zero, Option.some.injEq, Goroutine.mk.injEq] at this
    rw [← this.1] at hr
    cases hr
   |succ n =>
    have e3 : ∃ o u es, stepG P true (gor { ydu with mode := .panicking ch } []) w = .ended o u es := ⟨_, _, _, rfl⟩
    obtain ⟨o, u, es, e3⟩ := e3
    exact yfp (yfm e3) n h
end Go.Sim

namespace Go.Sim
variable {Q : Program}
def _root_.Go.World.tp (v : World) (τ : Nat → Question → Nat) : World := { v with tape := τ }
def ybr (v : World) : Prop := ∀ (b : Nat) o, v.heap[b]? = some o → o.tamed = o
theorem ybr.tame {v : World} (h : ybr v) : Tame v := fun b o ho => by rw [← h b o ho]; exact ykq o
theorem ygf (o : Obj) : o.tamed.tamed = o.tamed := by cases o <;> rfl
structure Whole (Q : Program) : Prop where
 bodied : bodied Q
 code : ∀ (f : Nat) fn c, Q.funcs[f]? = some fn → fn.body = some c → ybe (okG Q) c = true
theorem Whole.ends (W : Whole Q) : ∀ (fr : Frame) (o : Oper) v a v', okG Q o.op = true → Tame v → (execOp fr.eval o).run Q v = .ok a v' → okN a := fun fr o v a v' ho hv e => execOp_ends W.bodied hv fr.eval o ho a v' e
theorem Whole.twin (W : Whole Q) : Twin Q Q yca := ⟨rfl, rfl, W.bodied, fun f fn _ h => (W.bodied f fn h).1.elim (fun h1 => .inl ⟨h1, fn, h, h1, (W.bodied f fn h).2⟩) (fun hn => .inr ⟨hn, h⟩), fun f fn hz _ => hz.elim⟩
theorem Whole.pair (W : Whole Q) : PairB Q Q (okG Q) (fun _ => True) yca yca yca where
 tables := rfl
 ends := W.ends
 into := fun fr o f args v v' ho hv e => ⟨trivial, yll W.bodied hv fr.eval o ho _ v' e⟩
 same := fun _ _ _ => rfl
 code := fun f fn c _ _ h1 h2 => W.code f fn c h1 h2
 sub := fun _ h => h
 subE := fun _ h => h
 res := fun f fQ _ h => ⟨fQ, h, rfl⟩
theorem yom {v : World} (hv : ybr v) (τ τ' : Nat → Question → Nat) (n : Nat) (h : ∀ i, v.drawn ≤ i → i < n → τ i = τ' i) : Rel yca ⟨n, 0, 0, τ', τ⟩ (v.tp τ') (v.tp τ) := by
 refine ⟨rfl, fun b _ => ?_, fun b hb => hb.elim, rfl, rfl, fun i hi => h _ (by show v.drawn ≤ v.drawn + i; omega) hi, rfl, rfl, rfl⟩
 show v.heap[b]? = (v.heap[b]?).map Obj.tamed
 cases hb : v.heap[b]? with
 |none => rfl
 |some o => rw [Option.map_some, hv b o hb]
theorem yol {n : Nat} {w v : World} {τ τ' : Nat → Question → Nat} (h : Rel yca ⟨n, 0, 0, τ', τ⟩ w v) : (∀ b : Nat, v.heap[b]? = (w.heap[b]?).map Obj.tamed) ∧ v.drawn = w.drawn ∧ w.tape = τ' ∧ v.tape = τ ∧ v.os = w.os ∧ v.output = w.output :=
 ⟨fun b => h.same b id, by have := h.cnt; simpa using this.symm, h.tw, h.tv, h.os, h.output⟩
structure Sta where
 fr : Frame
 inner : List Frame
 v : World
structure Sta.Ok (Q : Program) (s : Sta) : Prop where
 fr : yml Q (okG Q) yca s.fr
 mode : s.fr.mode = .run ∨ s.fr.mode = .returning
 cs : OkCs Q (okG Q) yca s.inner
 fixed : ybr s.v
def Nxt (Q : Program) (s : Sta) (τ : Nat → Question → Nat) (s' : Sta) : Prop := (∃ es, stepG Q true (gor s.fr (s.inner ++ [ydu])) (s.v.tp τ) = .go (gor s'.fr (s'.inner ++ [ydu])) s'.v es) ∧ s'.Ok Q
def yip (Q : Program) (Stop : Frame → World → Prop) (s : Sta) : Prop :=
 ∀ C : Sta → Prop, (∀ s : Sta, s.fr.mode = .returning → s.inner = [] → Stop s.fr s.v → C s) →
  (∀ (s : Sta) (nx : (Nat → Question → Nat) → Sta), (∀ τ, Nxt Q s τ (nx τ)) → (∀ τ, C (nx τ)) → C s) → C s
theorem yip.stop {Stop : Frame → World → Prop} {s : Sta} (hm : s.fr.mode = .returning) (hi : s.inner = []) (h : Stop s.fr s.v) : yip Q Stop s := fun _ k0 _ => k0 s hm hi h
theorem yip.step {Stop : Frame → World → Prop} {s : Sta} (nx : (Nat → Question → Nat) → Sta) (h : ∀ τ, Nxt Q s τ (nx τ)) (ht : ∀ τ, yip Q Stop (nx τ)) : yip Q Stop s := fun C k0 k1 => k1 s nx h fun τ => ht τ C k0 k1
theorem yip.ind {Stop : Frame → World → Prop} {motive : ∀ s : Sta, yip Q Stop s → Prop}
  (stop : ∀ {s : Sta} (hm : s.fr.mode = .returning) (hi : s.inner = []) (h : Stop s.fr s.v), motive s (yip.stop hm hi h))
  (step : ∀ {s : Sta} (nx : (Nat → Question → Nat) → Sta) (h : ∀ τ, Nxt Q s τ (nx τ)) (ht : ∀ τ, yip Q Stop (nx τ)), (∀ τ, motive (nx τ) (ht τ)) → motive s (yip.step nx h ht))
  {s : Sta} (h : yip Q Stop s) : motive s h :=
 (h (fun s => ∃ h : yip Q Stop s, motive s h) (fun s hm hi h => ⟨yip.stop hm hi h, stop hm hi h⟩) (fun s nx h ht => ⟨yip.step nx h fun τ => (ht τ).1, step nx h (fun τ => (ht τ).1) fun τ => (ht τ).2⟩)).2
theorem yqu {w v : World} (h : w.heap = v.heap) (ht : w.tape = v.tape) (hd : w.drawn = v.drawn) (ho : w.os = v.os) (hp : w.output = v.output) : w = v := by
 cases w; cases v; simp only at h ht hd ho hp; subst h ht hd ho hp; rfl
theorem yys (W : Whole Q) {s : Sta} (hs : s.Ok Q) {τ τ' : Nat → Question → Nat} {g' : Goroutine} {v' : World} {es : Array Event} (hne : s.fr.mode = .returning → s.inner ≠ [])
  (h : stepG Q true (gor s.fr (s.inner ++ [ydu])) (s.v.tp τ) = .go g' v' es) (ha : ∀ i, s.v.drawn ≤ i → i < v'.drawn → τ i = τ' i) :
  (∃ fr' ch, fr'.mode = .panicking ch ∧ fr'.defers = [] ∧ g' = gor fr' (s.inner ++ [ydu])) ∨
  ∃ s' : Sta, s'.Ok Q ∧ g' = gor s'.fr (s'.inner ++ [ydu]) ∧ s'.v = v' ∧ v'.tape = τ ∧ ∃ es', stepG Q true (gor s.fr (s.inner ++ [ydu])) (s.v.tp τ') = .go g' (v'.tp τ') es' := by
 have hR := yom hs.fixed τ τ' v'.drawn ha
 rcases zfa (m := true) (sP := [ydu]) (sQ := [ydu]) W.pair (fun o ho => ynp W.twin s.fr.eval o ho hR rfl) hs.fr hs.mode hs.cs hne hR h (Nat.le_refl _) with ⟨f, args, _, hz, _⟩ | ⟨w', es', hR', _, _, hcase⟩ | hp
 ·exact hz.elim
 ·rcases hcase with ⟨fr', inner', hf', hm', hc', hg', hP⟩ | ⟨f, args, _, hd, _⟩
  ·obtain ⟨b1, d1, tw1, tv1, o1, p1⟩ := yol hR'
   -- and back
   have hR2 := yom hs.fixed τ' τ v'.drawn (fun i h1 h2 => (ha i h1 h2).symm)
   rcases zfa (m := true) (sP := [ydu]) (sQ := [ydu]) W.pair (fun o ho => ynp W.twin s.fr.eval o ho hR2 rfl) hs.fr hs.mode hs.cs hne hR2 hP (Nat.le_of_eq d1.symm) with ⟨f, args, _, hz, _⟩ | ⟨w2, es2, hR3, _, _, hcase2⟩ | ⟨fr2, ch, hp, _, hg2⟩
   ·exact hz.elim
   ·obtain ⟨b2, _, _, _, _, _⟩ := yol hR3
    have hw2 : w2 = v' := by
     rcases hcase2 with ⟨fr2, inner2, _, _, _, hg2, hP2⟩ | ⟨f, args, _, hd, _⟩
     ·rw [h] at hP2
      cases hP2
      rfl
     ·exact hd.elim
    subst hw2
    have heap : w'.heap = w2.heap := by
     apply Array.ext_getElem?
     intro b
     have e1 := b1 b
     have e2 := b2 b
     have : Obj.tamed ∘ Obj.tamed = Obj.tamed := funext ygf
     exact e2.trans (by rw [e1, Option.map_map, this])
    have hfix : ybr w2 := fun b o ho => by
     have := b1 b
     rw [ho] at this
     cases hw : w'.heap[b]? with
     |none => rw [hw] at this; cases this
     |some x =>
      rw [hw, Option.map_some, Option.some.injEq] at this
      rw [this]; exact ygf x
    refine .inr ⟨⟨fr', inner', w2⟩, ⟨hf', hm', hc', hfix⟩, hg', rfl, tv1, es', ?_⟩
    rw [hP, hg']
    have : w' = w2.tp τ' := yqu heap tw1 d1.symm o1.symm p1.symm
    rw [this]
   ·have : fr' = fr2 := congrArg Goroutine.frame hg2
    subst this
    rcases hm' with q | q <;> (rw [q] at hp; cases hp)
  ·exact hd.elim
 ·exact .inl hp
theorem yip.of_step {Stop : Frame → World → Prop} {s : Sta} (h : ∀ τ, ∃ s', Nxt Q s τ s' ∧ yip Q Stop s') : yip Q Stop s :=
 .step (fun τ => (h τ).choose) (fun τ => (h τ).choose_spec.1) (fun τ => (h τ).choose_spec.2)
theorem no_tree {Stop : Frame → World → Prop} {s : Sta} (h : ¬ yip Q Stop s) : ∃ τ, ∀ s', Nxt Q s τ s' → ¬ yip Q Stop s' :=
 Classical.byContradiction fun hn => h (.of_step fun τ => Classical.byContradiction fun hm => hn ⟨τ, fun s' h1 h2 => hm ⟨s', h1, h2⟩⟩)
theorem nxt_drawn (W : Whole Q) {s s' : Sta} (hs : s.Ok Q) {τ : Nat → Question → Nat} (h : Nxt Q s τ s') : s.v.drawn ≤ s'.v.drawn := by
 obtain ⟨⟨es, e⟩, _⟩ := h
 rcases ynf (ok := okG Q) W.ends (cs := s.inner ++ [ydu]) (v := s.v.tp τ) hs.fixed.tame hs.fr hs.mode with ⟨g, w, es', h1, h2⟩ | ⟨o, w, es', h1⟩
 ·rw [e] at h1; cases h1; exact h2
 ·rw [e] at h1; cases h1
end Go.Sim

namespace Go.Sim
variable {Q : Program}
theorem ysy {P : Program} {m m' : Machine} : ∀ {n : Nat}, runN P n m = .next m' → runN P (n + 1) m = step P m'
 |0, h => by
  simp only [runN, Stepped.next.injEq] at h
  subst h
  simp only [runN]
  cases step P m <;> rfl
 |n + 1, h => by
  simp only [runN] at h ⊢
  cases hs : step P m with
  |next m1 =>
   rw [hs] at h
   exact ysy h
  |ended o w => rw [hs] at h; cases h
theorem yyd {P : Program} {m m' : Machine} : ∀ {n k : Nat}, runN P n m = .next m' → runN P (n + k) m = runN P k m'
 |0, k, h => by
  simp only [runN, Stepped.next.injEq] at h
  subst h
  rw [Nat.zero_add]
 |n + 1, k, h => by
  rw [show n + 1 + k = (n + k) + 1 by omega]
  simp only [runN] at h ⊢
  cases hs : step P m with
  |next m1 =>
   rw [hs] at h
   exact yyd h
  |ended o w => rw [hs] at h; cases h
theorem yul {fr fr' : Frame} {cs cs' : List Frame} {w w' : World} (h : lone fr cs w = lone fr' cs' w') : fr = fr' ∧ cs = cs' ∧ w = w' := by
 have h1 := congrArg (fun m : Machine => m.gs[0]?) h
 have h2 := congrArg (fun m : Machine => m.world) h
 simp only [lone, List.getElem?_toArray, List.getElem?_cons_zero, Option.some.injEq, Goroutine.mk.injEq] at h1
 exact ⟨h1.1, h1.2.1, h2⟩
theorem ykt {fr fr' : Frame} {cs cs' : List Frame} (h : gor fr cs = gor fr' cs') : fr = fr' ∧ cs = cs' := ⟨congrArg Goroutine.frame h, congrArg Goroutine.callers h⟩
theorem yph {D : Nat → Prop} {ok : Op → Bool} {fr fr' : Frame} {v w' : World} (hf : yml Q ok D fr) (hm : fr.mode = .returning) (n : Nat) : runN Q (n + 1) (lone fr [ydu] v) ≠ .next (lone fr' [ydu] w') := by
 intro h
 have e := yey (cs := [ydu]) Q true v hm
 unfold unwind at e
 simp only [hf.defers, hm] at e
 have key : (∃ x u es, stepG Q true (gor fr [ydu]) v = .go (gor (ydu.finish x) []) u es) ∨ ∃ o u es, stepG Q true (gor fr [ydu]) v = .ended o u es := by
  rw [e]
  cases hq : Q.funcs[fr.fn]? with
  |none => exact absurd (Array.getElem?_eq_none_iff.1 hq) (Nat.not_le.2 hf.inn)
  |some fn =>
   dsimp only
   generalize (results fn fr.tmps).runT Q v #[] = r
   obtain ⟨r, es⟩ := r
   cases r with
   |ok x u =>
    dsimp only
    unfold doReturn
    simp only [hf.kind]
    exact .inl ⟨x, u, _, rfl⟩
   |halt y u => cases y <;> exact .inr ⟨_, _, _, rfl⟩
 rcases key with ⟨x, u, es, e1⟩ | ⟨o, u, es, e1⟩
 ·have e2 := yji e1
  simp only [runN, e2] at h
  cases n with
  |zero =>
   simp only [runN, Stepped.next.injEq] at h
   exact absurd (yul h).2.1 (by simp)
  |succ n =>
   have e3 : ∃ o u' es, stepG Q true (gor (ydu.finish x) []) u = .ended o u' es := ⟨_, _, _, rfl⟩
   obtain ⟨o, u', es, e3⟩ := e3
   exact yfp (yfm e3) n h
 ·exact yfp (yfm e1) n h
theorem nxt_ne {s s' : Sta} (hs : s.Ok Q) {τ : Nat → Question → Nat} (h : Nxt Q s τ s') : s.fr.mode = .returning → s.inner ≠ [] := by
 intro hm hi
 obtain ⟨⟨es, e⟩, _⟩ := h
 rw [hi] at e
 have e0 := yey (cs := [ydu]) Q true (s.v.tp τ) hm
 unfold unwind at e0
 simp only [hs.fr.defers, hm] at e0
 have e := e0.symm.trans e
 cases hq : Q.funcs[s.fr.fn]? with
 |none => exact absurd (Array.getElem?_eq_none_iff.1 hq) (Nat.not_le.2 hs.fr.inn)
 |some fn =>
  rw [hq] at e
  dsimp only at e
  generalize (results fn s.fr.tmps).runT Q (s.v.tp τ) #[] = r at e
  obtain ⟨r, es'⟩ := r
  obtain ⟨l, e⟩ := yoa e
  cases r with
  |ok x u =>
   dsimp only at e
   unfold doReturn at e
   simp only [hs.fr.kind, GStep.go.injEq] at e
   have := congrArg Goroutine.callers e.1
   simp [gor] at this
  |halt y u => cases y <;> cases e
theorem yui {p : Nat → Prop} (h : ∃ n, p n) : ∃ n, p n ∧ ∀ j, j < n → ¬ p j := by
 obtain ⟨n, hn⟩ := h
 induction n using Nat.strongRecOn with
 |_ n ih =>
  by_cases hj : ∃ j, j < n ∧ p j
  ·obtain ⟨j, hlt, hp⟩ := hj
   exact ih j hlt hp
  ·exact ⟨n, hn, fun j hlt hp => hj ⟨j, hlt, hp⟩⟩
theorem yyw (W : Whole Q) {Stop' : Frame → World → Prop} {fr0 : Frame} {v0 : World} (h0 : Sta.Ok Q ⟨fr0, [], v0⟩)
  (hruns : ∀ τ, ∃ n fr w', runN Q n (lone fr0 [ydu] (v0.tp τ)) = .next (lone fr [ydu] w') ∧ fr.mode = .returning ∧ Stop' fr w') :
  yip Q (fun fr v => ∃ τ, Stop' fr (v.tp τ)) ⟨fr0, [], v0⟩ := by
 classical
 refine Classical.byContradiction fun hno => ?_
 let S := { s : Sta // s.Ok Q ∧ ¬ yip Q (fun fr v => ∃ τ, Stop' fr (v.tp τ)) s }
 let th : S → (Nat → Question → Nat) := fun s => (no_tree s.2.2).choose
 have hth : ∀ (s : S) s', Nxt Q s.1 (th s) s' → ¬ yip Q (fun fr v => ∃ τ, Stop' fr (v.tp τ)) s' := fun s => (no_tree s.2.2).choose_spec
 let nx : S → S := fun s => if h : ∃ s', Nxt Q s.1 (th s) s' then ⟨h.choose, h.choose_spec.2, hth s _ h.choose_spec⟩ else s
 let sq : Nat → S := fun k => Nat.rec ⟨⟨fr0, [], v0⟩, h0, hno⟩ (fun _ s => nx s) k
 have sq1 : ∀ k, sq (k + 1) = nx (sq k) := fun _ => rfl
 let good : Nat → Prop := fun k => ∃ s', Nxt Q (sq k).1 (th (sq k)) s'
 have hgood : ∀ k, good k → Nxt Q (sq k).1 (th (sq k)) (sq (k + 1)).1 := by
  intro k h
  rw [sq1]
  show Nxt Q (sq k).1 (th (sq k)) (if h : ∃ s', Nxt Q (sq k).1 (th (sq k)) s' then (⟨h.choose, h.choose_spec.2, hth _ _ h.choose_spec⟩ : S) else sq k).1
  rw [dif_pos h]
  exact h.choose_spec
 have hbad : ∀ k, ¬ good k → sq (k + 1) = sq k := by
  intro k h
  rw [sq1]
  exact dif_neg h
 let dr : Nat → Nat := fun k => (sq k).1.v.drawn
 have mono1 : ∀ k, dr k ≤ dr (k + 1) := by
  intro k
  by_cases h : good k
  ·exact nxt_drawn W (sq k).2.1 (hgood k h)
  ·show (sq k).1.v.drawn ≤ (sq (k + 1)).1.v.drawn
   rw [hbad k h]
   exact Nat.le_refl _
 have mono : ∀ j k, j ≤ k → dr j ≤ dr k := by
  intro j k h
  induction h with
  |refl => exact Nat.le_refl _
  |step _ ih => exact Nat.le_trans ih (mono1 _)
 let N : Nat := if h : ∃ k, ¬ good k then (yui h).choose else 0
 let ix : Nat → Nat := fun i => if h : ∃ k, i < dr (k + 1) then (yui h).choose else N
 let star : Nat → Question → Nat := fun i => th (sq (ix i)) i
 have hix : ∀ k i, dr k ≤ i → i < dr (k + 1) → ix i = k := by
  intro k i h1 h2
  have hex : ∃ k, i < dr (k + 1) := ⟨k, h2⟩
  show (if h : ∃ k, i < dr (k + 1) then (yui h).choose else N) = k
  rw [dif_pos hex]
  refine Nat.le_antisymm (Nat.le_of_not_lt fun hlt => (yui hex).choose_spec.2 k hlt h2) (Nat.le_of_not_lt fun hlt => ?_)
  have := (yui hex).choose_spec.1
  have := mono ((yui hex).choose + 1) k hlt
  omega
 -- the run on the spliced tape
 have run : ∀ k, (∀ j, j < k → good j) → runN Q k (lone fr0 [ydu] (v0.tp star)) = .next (lone (sq k).1.fr ((sq k).1.inner ++ [ydu]) ((sq k).1.v.tp star)) := by
  intro k
  induction k with
  |zero => exact fun _ => rfl
  |succ k ih =>
   intro hg
   rw [ysy (ih fun j hj => hg j (by omega))]
   have hn := hgood k (hg k (by omega))
   obtain ⟨⟨es, e⟩, hok⟩ := id hn
   rcases yys W (sq k).2.1 (τ' := star) (nxt_ne (sq k).2.1 hn) e (fun i h1 h2 => by
    show th (sq k) i = th (sq (ix i)) i
    rw [hix k i h1 h2]) with ⟨fr', ch, hp, _, hg'⟩ | ⟨s', hs', hg', hv', _, es', he⟩
   ·have : (sq (k + 1)).1.fr = fr' := congrArg Goroutine.frame hg'
    rw [← this] at hp
    rcases hok.mode with q | q <;> (rw [q] at hp; cases hp)
   ·exact yji he
 obtain ⟨m, fr, w', hrun, hmode, hstop⟩ := hruns star
 by_cases hall : ∀ j, j < m → good j
 ·have := run m hall
  rw [hrun, Stepped.next.injEq] at this
  obtain ⟨e1, e2, e3⟩ := yul this
  have hi : (sq m).1.inner = [] := by
   have := congrArg List.length e2
   simp at this
   exact this
  refine (sq m).2.2 (.stop (by rw [← e1]; exact hmode) hi ⟨star, ?_⟩)
  rw [← e1, ← e3]
  exact hstop
 ·have hex : ∃ k, ¬ good k := by
   refine Classical.byContradiction fun h => hall fun j _ => ?_
   exact Classical.byContradiction fun hj => h ⟨j, hj⟩
  have hN : N = (yui hex).choose := dif_pos hex
  have hng : ¬ good N := by rw [hN]; exact (yui hex).choose_spec.1
  have hlo : ∀ j, j < N → good j := fun j hj => Classical.byContradiction fun h => (yui hex).choose_spec.2 j (by rw [← hN]; exact hj) h
  have hNm : N < m := by
   refine Nat.lt_of_not_le fun h => hall fun j hj => hlo j (by omega)
  have stay : ∀ k, N ≤ k → sq k = sq N := by
   intro k h
   induction h with
   |refl => rfl
   |@step k _ ih =>
    have hb : ¬ good k := by
     show ¬ ∃ s', Nxt Q (sq k).1 (th (sq k)) s'
     rw [ih]
     exact hng
    rw [hbad k hb, ih]
  have hst : ∀ i, dr N ≤ i → star i = th (sq N) i := by
   intro i hi
   have : ix i = N := by
    refine dif_neg fun ⟨k, hk⟩ => ?_
    rcases Nat.lt_or_ge k N with h | h
    ·have := mono (k + 1) N h; omega
    ·have e : dr (k + 1) = dr N := by show (sq (k + 1)).1.v.drawn = (sq N).1.v.drawn; rw [stay (k + 1) (by omega)]
     omega
   show th (sq (ix i)) i = _
   rw [this]
  obtain ⟨r, hr⟩ : ∃ r, m = N + (r + 1) := ⟨m - N - 1, by omega⟩
  have hrest : runN Q (r + 1) (lone (sq N).1.fr ((sq N).1.inner ++ [ydu]) ((sq N).1.v.tp star)) = .next (lone fr [ydu] w') := by
   rw [← yyd (k := r + 1) (run N hlo), ← hr]
   exact hrun
  have hok := (sq N).2.1
  by_cases hleave : (sq N).1.fr.mode = .returning ∧ (sq N).1.inner = []
  ·rw [hleave.2] at hrest
   exact yph hok.fr hleave.1 r hrest
  ·have hne : (sq N).1.fr.mode = .returning → (sq N).1.inner ≠ [] := fun h1 h2 => hleave ⟨h1, h2⟩
   rcases ynf (ok := okG Q) W.ends (cs := (sq N).1.inner ++ [ydu]) (v := (sq N).1.v.tp star) hok.fixed.tame hok.fr hok.mode with ⟨g', v', es, e, _⟩ | ⟨o, u, es, e⟩
   ·rcases yys W hok (τ' := th (sq N)) hne e (fun i h1 _ => hst i h1) with ⟨fr', ch, hp, hd, hg'⟩ | ⟨s', hs', hg', hv', _, es', he⟩
    ·rw [hg'] at e
     have e2 := yji e
     simp only [runN, e2] at hrest
     exact ykx r (sq N).1.inner fr' v' ch fr [ydu] w' hp hd (fun c hc => ⟨(hok.cs c hc).1.defers, (hok.cs c hc).2⟩) hrest hmode
    ·refine hng ⟨⟨s'.fr, s'.inner, v'.tp (th (sq N))⟩, ⟨es', by rw [he, hg']⟩, hs'.fr, hs'.mode, hs'.cs, ?_⟩
     have := hs'.fixed
     rw [hv'] at this
     exact this
   ·exact yfp (yfm e) r hrest
end Go.Sim
