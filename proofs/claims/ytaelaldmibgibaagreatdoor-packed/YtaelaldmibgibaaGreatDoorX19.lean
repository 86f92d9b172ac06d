/- A machine in which goroutine 0 and a child work while all ot. -/
import Derived.Conc.Beside
import Derived.Test.YtaelaldmibgibaaGreatDoorX18

set_option linter.all false

namespace Go.Sim
open Go.Conc
open Go.ConcN (sumTo upd sumTo_upd upd_ne upd_same)
structure Two (P : Program) (c : Nat) (gs : Array Goroutine) (a b : Goroutine) (T : Trace) (q : Nat → Nat) : Prop where
 size : gs.size = c + 1
 pos : 0 < c
 h0 : gs[0]? = some a
 hc : gs[c]? = some b
 old : ∀ i g, 0 < i → i < c → gs[i]? = some g → QuitsD P (q i) (Deaf T i) g
 above : ∀ j, c < j → Deaf T j = 0
def yhp (P : Program) (Done : Array Goroutine → World → Trace → Prop) (gs : Array Goroutine) (w : World) (sl : Option (Nat × Nat)) (T : Trace) : Prop :=
 ∃ N gs' w' sl' T', runNT P N (crowd gs w sl) T = (.next (crowd gs' w' sl'), T') ∧ Done gs' w' T'
theorem yhp.now {P : Program} {Done : Array Goroutine → World → Trace → Prop} {gs : Array Goroutine} {w : World} {sl : Option (Nat × Nat)} {T : Trace} (h : Done gs w T) : yhp P Done gs w sl T := ⟨0, gs, w, sl, T, rfl, h⟩
theorem yhp.next {P : Program} {Done : Array Goroutine → World → Trace → Prop} {gs gs1 : Array Goroutine} {w w1 : World} {sl sl1 : Option (Nat × Nat)} {T : Trace} {ops : Array MemOp} (hs : stepT P (crowd gs w sl) = (.next (crowd gs1 w1 sl1), ops)) (h : yhp P Done gs1 w1 sl1 (T ++ ops)) : yhp P Done gs w sl T := by
 obtain ⟨N, gs', w', sl', T', hr, hd⟩ := h
 exact ⟨N + 1, gs', w', sl', T', by simp only [runNT, hs]; exact hr, hd⟩
theorem yhp.mono {P : Program} {Done Done' : Array Goroutine → World → Trace → Prop} {gs : Array Goroutine} {w : World} {sl : Option (Nat × Nat)} {T : Trace} (h : yhp P Done gs w sl T) (hd : ∀ gs' w' sl' T', Done gs' w' T' → yhp P Done' gs' w' sl' T') : yhp P Done' gs w sl T := by
 obtain ⟨N, gs', w', sl', T', hr, hx⟩ := h
 obtain ⟨N2, gs2, w2, sl2, T2, hr2, hd2⟩ := hd gs' w' sl' T' hx
 refine ⟨N + N2, gs2, w2, sl2, T2, ?_, hd2⟩
 have : ∀ (n k : Nat) (m m' : Machine) (t t' : Trace), runNT P n m t = (.next m', t') → runNT P (n + k) m t = runNT P k m' t' := by
  intro n
  induction n with
  |zero => intro k m m' t t' h; simp only [runNT, Prod.mk.injEq, Stepped.next.injEq] at h; rw [Nat.zero_add, h.1, h.2]
  |succ n ih =>
   intro k m m' t t' h
   rw [show n + 1 + k = (n + k) + 1 by omega]
   simp only [runNT] at h ⊢
   generalize stepT P m = x at h
   obtain ⟨x, ops⟩ := x
   cases x with
   |next m1 => exact ih k m1 m' _ t' h
   |ended o u => cases h
 rw [this N N2 _ _ _ _ hr]
 exact hr2
theorem yfg {g : Nat} {fn : FuncId} {pos : String} {es : Array Event} : ∀ op ∈ MemOp.ofEvents g fn pos es, op.g = g := fun op hop => by
 obtain ⟨e, _, rfl⟩ := Go.Conc.mem_ofEvents hop
 rfl
section
variable {P : Program} {Done : Array Goroutine → World → Trace → Prop} {c : Nat} {gs : Array Goroutine} {a b : Goroutine} {w : World} {sl : Option (Nat × Nat)} {T : Trace} {q : Nat → Nat}
theorem ygn (hB : Two P c gs a b T q) (awa : awake a) (awb : awake b) (hrun : a.status = .running ∨ b.status = .running)
  (h0 : ∀ d, a.status = .running → ∃ a' w' es, stepG P true a (w.at d) = .go a' w' es ∧ ∀ gs' sl', Two P c gs' a' (woken P a a' w' b) (T ++ MemOp.ofEvents 0 a.frame.fn a.frame.place es) q → yhp P Done gs' w' sl' (T ++ MemOp.ofEvents 0 a.frame.fn a.frame.place es))
  (h1 : ∀ d, b.status = .running → ∃ b' w' es, stepG P false b (w.at d) = .go b' w' es ∧ ∀ gs' sl', Two P c gs' (woken P b b' w' a) b' (T ++ MemOp.ofEvents c b.frame.fn b.frame.place es) q → yhp P Done gs' w' sl' (T ++ MemOp.ofEvents c b.frame.fn b.frame.place es))
  (h2 : ∀ d i g g' es q', 0 < i → i < c → (∀ e ∈ es, Event.mute e = true) → sumTo c q' < sumTo c q → ∀ gs' sl', Two P c gs' (woken P g g' (w.at d) a) (woken P g g' (w.at d) b) (T ++ MemOp.ofEvents i g.frame.fn g.frame.place es) q' → yhp P Done gs' (w.at d) sl' (T ++ MemOp.ofEvents i g.frame.fn g.frame.place es)) :
  yhp P Done gs w sl T := by
 have hc0 : c ≠ 0 := Nat.ne_of_gt hB.pos
 have haw : ∀ g ∈ gs, awake g := by
  intro g hg
  obtain ⟨i, hi, rfl⟩ := Array.mem_iff_getElem.1 hg
  have hgi : gs[i]? = some gs[i] := Array.getElem?_eq_getElem hi
  by_cases e0 : i = 0
  ·subst e0; rw [hB.h0] at hgi; rw [← Option.some.inj hgi]; exact awa
  ·by_cases e1 : i = c
   ·subst e1; rw [hB.hc] at hgi; rw [← Option.some.inj hgi]; exact awb
   ·exact awake_of ((hB.old i _ (by omega) (by have := hB.size; omega) hgi).status.elim .inl fun x => .inr (.inr x))
 obtain ⟨i, g, d, sl', hi, hg, hst⟩ := crowd_pick (P := P) (w := w) (sl := sl) haw (hrun.elim (fun x => ⟨0, a, hB.h0, x⟩) (fun x => ⟨c, b, hB.hc, x⟩))
 have hilt : i < gs.size := (Array.getElem?_eq_some_iff.1 hi).1
 by_cases e0 : i = 0
 ·subst e0
  obtain rfl : g = a := by rw [hB.h0] at hi; exact (Option.some.inj hi).symm
  obtain ⟨a', w', es, hgo, hk⟩ := h0 d hg
  have hrunT := runT_crowd_go (P := P) (sl := sl') (i := 0) hi hgo
  refine yhp.next (hst.trans hrunT) (hk _ _ ⟨by simp [hB.size], hB.pos, by simp [hilt], ?_, fun j x hj hjc hx => ?_, fun j hj => by rw [Deaf_other T (g' := 0) (by omega) _ yfg]; exact hB.above j hj⟩)
  ·rw [Array.getElem?_setIfInBounds_ne (Ne.symm hc0), Array.getElem?_map, hB.hc]; rfl
  ·rw [Array.getElem?_setIfInBounds_ne (by omega), Array.getElem?_map] at hx
   obtain ⟨y, hy, rfl⟩ := Option.map_eq_some_iff.1 hx
   have hq := hB.old j y hj hjc hy
   rw [woken_quitsD hq, Deaf_other T (g' := 0) (by omega) _ yfg]
   exact hq
 by_cases e1 : i = c
 ·subst e1
  obtain rfl : g = b := by rw [hB.hc] at hi; exact (Option.some.inj hi).symm
  have hi0 : (i == 0) = false := by simp [e0]
  obtain ⟨b', w', es, hgo, hk⟩ := h1 d hg
  have hrunT := runT_crowd_go (P := P) (sl := sl') (i := i) hi (by rw [hi0]; exact hgo)
  refine yhp.next (hst.trans hrunT) (hk _ _ ⟨by simp [hB.size], hB.pos, ?_, by simp [hilt], fun j x hj hjc hx => ?_, fun j hj => by rw [Deaf_other T (g' := i) (by omega) _ yfg]; exact hB.above j hj⟩)
  ·rw [Array.getElem?_setIfInBounds_ne e0, Array.getElem?_map, hB.h0]; rfl
  ·rw [Array.getElem?_setIfInBounds_ne (by omega), Array.getElem?_map] at hx
   obtain ⟨y, hy, rfl⟩ := Option.map_eq_some_iff.1 hx
   have hq := hB.old j y hj hjc hy
   rw [woken_quitsD hq, Deaf_other T (g' := i) (by omega) _ yfg]
   exact hq
 ·have hic : i < c := by have := hB.size; omega
  have hq := hB.old i g (by omega) hic hi
  have hi0 : (i == 0) = false := by simp [e0]
  cases hqi : q i with
  |zero => rw [hqi] at hq; rw [hq.1] at hg; cases hg
  |succ k =>
   rw [hqi] at hq
   rcases hq with ⟨hf, _⟩ | ⟨_, g', es, hm, hstp, hq'⟩
   ·rw [hf] at hg; cases hg
   have hrunT := runT_crowd_go (P := P) (sl := sl') (i := i) hi (by rw [hi0]; exact hstp (w.at d))
   have hsum : sumTo c (upd q i k) + (k + 1) = sumTo c q + k := by
    have := sumTo_upd q k id hic
    simpa [hqi] using this
   refine yhp.next (hst.trans hrunT) (h2 d i g g' es (upd q i k) (by omega) hic hm (by omega) _ _ ⟨by simp [hB.size], hB.pos, ?_, ?_, fun j x hj hjc hx => ?_, fun j hj => by rw [Deaf_other T (g' := i) (by omega) _ yfg]; exact hB.above j hj⟩)
   ·rw [Array.getElem?_setIfInBounds_ne e0, Array.getElem?_map, hB.h0]; rfl
   ·rw [Array.getElem?_setIfInBounds_ne e1, Array.getElem?_map, hB.hc]; rfl
   ·by_cases hji : i = j
    ·subst hji
     rw [Array.getElem?_setIfInBounds_self_of_lt (by simpa using hilt)] at hx
     obtain rfl := Option.some.inj hx
     rw [upd_same, Deaf_own]
     exact hq'
    ·rw [Array.getElem?_setIfInBounds_ne hji, Array.getElem?_map] at hx
     obtain ⟨y, hy, rfl⟩ := Option.map_eq_some_iff.1 hx
     have hqj := hB.old j y hj hjc hy
     rw [woken_quitsD hqj, upd_ne q k (Ne.symm hji), Deaf_other T hji _ yfg]
     exact hqj
end
end Go.Sim

namespace Go.Sim
open Go.Conc
def OfW (Wg : Nat) (l : Loc) : Prop := ∃ a, l = .cell a ∧ a.block = Wg
def wA (Wg : Nat) : Addr := ⟨Wg, 0, none⟩
def Hush (Wg : Nat) (T : Trace) : Prop := ∀ (i : Nat) op x, T[i]? = some op → op.act.touch? = some x → OfW Wg x.loc → x.kind ≠ .plain ∧ (x.kind = .said → op.g = 0)
theorem Hush.app {Wg : Nat} {T u : Trace} (h : Hush Wg T) (hu : ∀ op ∈ u, ∀ x, op.act.touch? = some x → OfW Wg x.loc → x.kind ≠ .plain ∧ (x.kind = .said → op.g = 0)) : Hush Wg (T ++ u) := by
 intro i op x hi hx hw
 rcases getElem?_append_cases hi with ⟨_, hi'⟩ | ⟨_, hiu⟩
 ·exact h i op x hi' hx hw
 ·exact hu op hiu x hx hw
def NoRel (Wg : Nat) (T : Trace) : Prop := ∀ i, T.act? i ≠ some (.mark (.release (wA Wg)))
theorem NoRel.app {Wg : Nat} {T u : Trace} (h : NoRel Wg T) (hu : ∀ op ∈ u, op.act ≠ .mark (.release (wA Wg))) : NoRel Wg (T ++ u) := by
 intro i hi
 obtain ⟨op, ho, hoa⟩ := Option.map_eq_some_iff.1 hi
 rcases getElem?_append_cases ho with ⟨_, ho'⟩ | ⟨_, hou⟩
 ·exact h i (by rw [act?_of ho', hoa])
 ·exact hu op hou hoa
theorem ysh {Wg g : Nat} {T : Trace} {said : Bool} {b : Touch} (h : Hush Wg T) (hb : OfW Wg b.loc) (hk : b.kind ≠ .plain) (hs : b.kind = .said → g = 0) {i : Nat} {a : Touch} (ha : touchAt T i = some a) (hc : a.conflicts said b) : Knows T g i := by
 obtain ⟨x, hx, hxa⟩ := touch_of ha
 obtain ⟨h1, h2⟩ := h i x a hx hxa (by rw [hc.1]; exact hb)
 obtain ⟨_, _, _, hcase⟩ := hc
 rcases hcase with e | e | ⟨_, e1, e2⟩
 ·exact absurd e h1
 ·exact absurd e hk
 ·have := knows_own hx
  rw [h2 e1, ← hs e2] at this
  exact this
structure Pre (Shun : Loc → Prop) (B Wg d0 : Nat) (T : Trace) : Prop where
 clean : ∀ said, ¬ Race said T
 known : ∀ i a, touchAt T i = some a → a.loc.isMemory = true → Knows T 0 i ∨ (Shun a.loc ∧ a.kind = .atomic)
 over : T.HandedOver
 deaf0 : Deaf T 0 = d0
 seen : ∀ op ∈ T, op.act.low B
 hush : Hush Wg T
 norel : NoRel Wg T
theorem low_touch {B : Nat} {act : MemAct} {x : Touch} {a : Addr} (h : act.low B) (hx : act.touch? = some x) (hl : x.loc = .cell a) : a.block < B := by
 cases act with
 |access e =>
  simp only [MemAct.touch?, Option.some.injEq] at hx
  subst hx
  have : e.loc.low B := h
  rw [show e.loc = .cell a from hl] at this
  exact this
 |mark m =>
  cases m <;> simp only [MemAct.touch?, Option.some.injEq, reduceCtorEq] at hx
  ·subst hx; cases hl; exact h
  ·subst hx; cases hl; exact h
 |_ => cases hx
theorem Pre.of_past {Shun : Loc → Prop} {B B' Wg : Nat} {T : Trace} (h : Past Shun B T) (hB : B ≤ Wg) (hB' : B ≤ B') : Pre Shun B' Wg 0 T := by
 refine ⟨h.clean, h.known, h.over, h.hears, fun op hop => MemAct.low_mono hB' (h.seen op hop), fun i op x hi hx hw => ?_, fun i hi => ?_⟩
 ·obtain ⟨a, ha, hb⟩ := hw
  have := low_touch (h.seen op (mem_of_getElem? hi)) hx ha
  omega
 ·obtain ⟨op, ho, hoa⟩ := Option.map_eq_some_iff.1 hi
  have := h.seen op (mem_of_getElem? ho)
  rw [hoa] at this
  have : Wg < B := this
  omega
theorem Pre.app0 {Shun : Loc → Prop} {B Wg d0 d1 : Nat} {T u : Trace} (h : Pre Shun B Wg d0 T) (hu : ∀ op ∈ u, op.g = 0)
  (hs : ∀ op ∈ u, ∀ b, op.act.touch? = some b → (Shun b.loc → b.kind ≠ .plain) ∧ (OfW Wg b.loc → b.kind ≠ .plain)) (hd : Deaf (T ++ u) 0 = d1) (hl : ∀ op ∈ u, op.act.low B) (hr : ∀ op ∈ u, op.act ≠ .mark (.release (wA Wg))) : Pre Shun B Wg d1 (T ++ u) := by
 refine ⟨fun said => noRace_append (h.clean said) hu fun i a ha op hop b hb hc => ?_, fun i a ha hm => ?_, handedOver_app h.over fun op hop => .inl (hu op hop), hd, seen_app h.seen hl, h.hush.app (fun op hop x hx hw => ⟨(hs op hop x hx).2 hw, fun _ => hu op hop⟩), h.norel.app hr⟩
 ·rcases h.known i a ha hc.2.1 with hk | ⟨hsa, hka⟩
  ·exact hk
  ·have hkb := (hs op hop b hb).1 (hc.1 ▸ hsa)
   obtain ⟨_, _, _, hcase⟩ := hc
   rw [hka] at hcase
   rcases hcase with x | x | ⟨_, x, _⟩
   ·cases x
   ·exact absurd x hkb
   ·cases x
 ·obtain ⟨x, hx, hxa⟩ := touch_of ha
  rcases getElem?_append_cases hx with ⟨_, hx'⟩ | ⟨_, hxu⟩
  ·exact (h.known i a (by rw [touchAt_of hx']; exact hxa) hm).imp (·.app u) id
  ·have := knows_own hx
   rw [hu x hxu] at this
   exact .inl this
theorem Pre.mute {Shun : Loc → Prop} {B Wg d0 g : Nat} {T u : Trace} (h : Pre Shun B Wg d0 T) (hg : g ≠ 0) (hu : ∀ op ∈ u, op.g = g) (hn : ∀ op ∈ u, op.act.touch? = none) (hl : ∀ op ∈ u, op.act.low B) (hr : ∀ op ∈ u, op.act ≠ .mark (.release (wA Wg))) : Pre Shun B Wg d0 (T ++ u) := by
 refine ⟨fun said => noRace_append (h.clean said) hu fun i a _ op hop b hb _ => (by rw [hn op hop] at hb; cases hb), fun i a ha hm => ?_, handedOver_app h.over fun op hop => .inr (hn op hop), (Deaf_other T hg u hu).trans h.deaf0, seen_app h.seen hl, h.hush.app (fun op hop x hx => by rw [hn op hop] at hx; cases hx), h.norel.app hr⟩
 obtain ⟨x, hx, hxa⟩ := touch_of ha
 rcases getElem?_append_cases hx with ⟨_, hx'⟩ | ⟨_, hxu⟩
 ·exact (h.known i a (by rw [touchAt_of hx']; exact hxa) hm).imp (·.app u) id
 ·rw [hn x hxu] at hxa; cases hxa
def Cov (c : Nat) (T : Trace) (i : Nat) : Option Nat → Prop
 |none => Knows T c i
 |some r => Before T i r
theorem Cov.app {c i : Nat} {T : Trace} (u : Trace) : ∀ {rel : Option Nat}, Cov c T i rel → Cov c (T ++ u) i rel
 |none, h => Knows.app u h
 |some _, h => Before.app u h
structure Mid (Shun : Loc → Prop) (B Wg c d0 dc : Nat) (rel : Option Nat) (T : Trace) : Prop where
 clean : ∀ said, ¬ Race said T
 hush : Hush Wg T
 seen : ∀ op ∈ T, op.act.low B
 norel : NoRel Wg T
 known : ∀ i a, touchAt T i = some a → a.loc.isMemory = true → ¬ OfW Wg a.loc → (Shun a.loc ∧ a.kind = .atomic) ∨ Cov c T i rel
 others : ∀ i g, T.g? i = some g → g ≠ 0 → g ≠ c → T.counts i → ∃ j, T.g? j = some 0 ∧ HappensBefore T i j
 relat : ∀ r, rel = some r → T.act? r = some (.mark (.releaseMerge (wA Wg))) ∧ T.g? r = some c ∧ T.heard r ∧ ∀ i, r < i → T.g? i = some c → ¬ T.counts i
 deaf0 : Deaf T 0 = d0
 deafc : Deaf T c = dc
theorem yfn {c : Nat} {T u : Trace} (h : ∀ i g, T.g? i = some g → g ≠ 0 → g ≠ c → T.counts i → ∃ j, T.g? j = some 0 ∧ HappensBefore T i j) (hu : ∀ op ∈ u, op.g = 0 ∨ op.g = c ∨ op.act.touch? = none) :
  ∀ i g, (T ++ u).g? i = some g → g ≠ 0 → g ≠ c → (T ++ u).counts i → ∃ j, (T ++ u).g? j = some 0 ∧ HappensBefore (T ++ u) i j := by
 intro i g hg h0 hc hcn
 obtain ⟨x, hx, hm⟩ := id hcn
 obtain ⟨op, hop, hox⟩ := touch_of hx
 rcases getElem?_append_cases hop with ⟨hi, hop'⟩ | ⟨_, hopu⟩
 ·obtain ⟨j, hj, hb⟩ := h i g (by rw [← g?_old (u := u) hi]; exact hg) h0 hc ((counts_old hi).1 hcn)
  have hjl : j < T.size := by
   unfold Trace.g? at hj
   obtain ⟨z, hz, _⟩ := Option.map_eq_some_iff.1 hj
   exact lt_size_of_getElem? hz
  exact ⟨j, by rw [g?_old hjl]; exact hj, hb_app u hb⟩
 ·have hgo : op.g = g := by simpa [Trace.g?, hop] using hg
  rcases hu op hopu with e | e | e
  ·exact absurd (hgo.symm.trans e) h0
  ·exact absurd (hgo.symm.trans e) hc
  ·rw [e] at hox; cases hox
theorem ypz {Wg c : Nat} {rel : Option Nat} {T u : Trace} (h : ∀ r, rel = some r → T.act? r = some (.mark (.releaseMerge (wA Wg))) ∧ T.g? r = some c ∧ T.heard r ∧ ∀ i, r < i → T.g? i = some c → ¬ T.counts i)
  (hu : rel ≠ none → ∀ i, T.size ≤ i → (T ++ u).g? i = some c → ¬ (T ++ u).counts i) :
  ∀ r, rel = some r → (T ++ u).act? r = some (.mark (.releaseMerge (wA Wg))) ∧ (T ++ u).g? r = some c ∧ (T ++ u).heard r ∧ ∀ i, r < i → (T ++ u).g? i = some c → ¬ (T ++ u).counts i := by
 intro r hr
 obtain ⟨h1, h2, h3, h4⟩ := h r hr
 have hlt : r < T.size := lt_of_act? h1
 refine ⟨by rw [act?_old hlt]; exact h1, by rw [g?_old hlt]; exact h2, (heard_old hlt).2 h3, fun i hi hg => ?_⟩
 rcases Nat.lt_or_ge i T.size with hl | hl
 ·rw [counts_old hl]; exact h4 i hi (by rw [← g?_old (u := u) hl]; exact hg)
 ·exact hu (by rw [hr]; simp) i hl hg
section
variable {Shun : Loc → Prop} {B Wg c d0 dc : Nat} {rel : Option Nat} {T u : Trace}
theorem Mid.work (h : Mid Shun B Wg c d0 dc none T) (hc0 : c ≠ 0) (hu : ∀ op ∈ u, op.g = c)
  (hs : ∀ op ∈ u, ∀ b, op.act.touch? = some b → (Shun b.loc → b.kind ≠ .plain) ∧ ¬ OfW Wg b.loc) (hd : Deaf (T ++ u) c = dc) {B' : Nat} (hBB : B ≤ B') (hl : ∀ op ∈ u, op.act.low B') (hr : ∀ op ∈ u, op.act ≠ .mark (.release (wA Wg))) : Mid Shun B' Wg c d0 dc none (T ++ u) := by
 refine ⟨fun said => noRace_append (h.clean said) hu fun i a ha op hop b hb hcf => ?_, h.hush.app (fun op hop x hx hw => absurd hw (hs op hop x hx).2), seen_app (fun op hop => MemAct.low_mono hBB (h.seen op hop)) hl, h.norel.app hr, fun i a ha hm hw => ?_,
  yfn h.others fun op hop => .inr (.inl (hu op hop)), fun r e => (by cases e), (Deaf_other T hc0 u hu).trans h.deaf0, hd⟩
 ·obtain ⟨hsb, hwb⟩ := hs op hop b hb
  rcases h.known i a ha hcf.2.1 (by rw [hcf.1]; exact hwb) with ⟨hsa, hka⟩ | hk
  ·have hkb := hsb (hcf.1 ▸ hsa)
   obtain ⟨_, _, _, hcase⟩ := hcf
   rw [hka] at hcase
   rcases hcase with x | x | ⟨_, x, _⟩
   ·cases x
   ·exact absurd x hkb
   ·cases x
  ·exact hk
 ·obtain ⟨x, hx, hxa⟩ := touch_of ha
  rcases getElem?_append_cases hx with ⟨_, hx'⟩ | ⟨_, hxu⟩
  ·exact (h.known i a (by rw [touchAt_of hx']; exact hxa) hm hw).imp id (·.app u)
  ·have := knows_own hx
   rw [hu x hxu] at this
   exact .inr this
theorem Mid.caller (h : Mid Shun B Wg c d0 dc rel T) (hc0 : c ≠ 0) {d1 : Nat} (hu : ∀ op ∈ u, op.g = 0)
  (hs : ∀ op ∈ u, ∀ b, op.act.touch? = some b → b.kind ≠ .plain ∧ OfW Wg b.loc) (hd : Deaf (T ++ u) 0 = d1) (hl : ∀ op ∈ u, op.act.low B) (hr : ∀ op ∈ u, op.act ≠ .mark (.release (wA Wg))) : Mid Shun B Wg c d1 dc rel (T ++ u) := by
 refine ⟨fun said => noRace_append (h.clean said) hu fun i a ha op hop b hb hcf => ?_, h.hush.app (fun op hop x hx hw => ⟨(hs op hop x hx).1, fun _ => hu op hop⟩), seen_app h.seen hl, h.norel.app hr, fun i a ha hm hw => ?_,
  yfn h.others fun op hop => .inl (hu op hop), ypz h.relat fun _ i hi hg => ?_, hd, (Deaf_other T (Ne.symm hc0) u hu).trans h.deafc⟩
 ·obtain ⟨hk, hw⟩ := hs op hop b hb
  exact ysh h.hush hw hk (fun _ => rfl) ha hcf
 ·obtain ⟨x, hx, hxa⟩ := touch_of ha
  rcases getElem?_append_cases hx with ⟨_, hx'⟩ | ⟨_, hxu⟩
  ·exact (h.known i a (by rw [touchAt_of hx']; exact hxa) hm hw).imp id (·.app u)
  ·exact absurd (hs x hxu a hxa).2 hw
 ·obtain ⟨op, ho, hog⟩ := Option.map_eq_some_iff.1 hg
  rcases getElem?_append_cases ho with ⟨hlt, _⟩ | ⟨_, hou⟩
  ·omega
  ·exact absurd ((hu op hou).symm.trans hog) (Ne.symm hc0)
theorem Mid.mute (h : Mid Shun B Wg c d0 dc rel T) {g : Nat} (hg0 : g ≠ 0) (hgc : g ≠ c) (hu : ∀ op ∈ u, op.g = g) (hn : ∀ op ∈ u, op.act.touch? = none) (hl : ∀ op ∈ u, op.act.low B) (hr : ∀ op ∈ u, op.act ≠ .mark (.release (wA Wg))) : Mid Shun B Wg c d0 dc rel (T ++ u) := by
 refine ⟨fun said => noRace_append (h.clean said) hu fun i a _ op hop b hb _ => (by rw [hn op hop] at hb; cases hb), h.hush.app (fun op hop x hx => by rw [hn op hop] at hx; cases hx), seen_app h.seen hl, h.norel.app hr, fun i a ha hm hw => ?_,
  yfn h.others fun op hop => .inr (.inr (hn op hop)), ypz h.relat fun _ i hi hg => ?_, (Deaf_other T hg0 u hu).trans h.deaf0, (Deaf_other T hgc u hu).trans h.deafc⟩
 ·obtain ⟨x, hx, hxa⟩ := touch_of ha
  rcases getElem?_append_cases hx with ⟨_, hx'⟩ | ⟨_, hxu⟩
  ·exact (h.known i a (by rw [touchAt_of hx']; exact hxa) hm hw).imp id (·.app u)
  ·rw [hn x hxu] at hxa; cases hxa
 ·obtain ⟨op, ho, hog⟩ := Option.map_eq_some_iff.1 hg
  rcases getElem?_append_cases ho with ⟨hlt, _⟩ | ⟨_, hou⟩
  ·omega
  ·exact absurd ((hu op hou).symm.trans hog) hgc
theorem Mid.release (h : Mid Shun B Wg c d0 0 none T) (hc0 : c ≠ 0) {y : MemOp} (hy : y.g = c) (hya : y.act = .mark (.releaseMerge (wA Wg))) (hB : Wg < B) : Mid Shun B Wg c d0 0 (some T.size) (T ++ #[y]) := by
 have hu : ∀ op ∈ (#[y] : Trace), op = y := fun op hop => by simpa using hop
 have hlast : (T ++ #[y])[T.size]? = some y := by rw [Array.getElem?_append_right (Nat.le_refl _)]; simp
 have hn : y.act.touch? = none := by rw [hya]; rfl
 have hdc : Deaf (T ++ #[y]) c = 0 := by rw [Deaf_push, h.deafc]; unfold deafStep; rw [hya]
 refine ⟨fun said => noRace_append (g := c) (h.clean said) (fun op hop => by rw [hu op hop]; exact hy) fun i a _ op hop b hb _ => (by rw [hu op hop, hn] at hb; cases hb), h.hush.app (fun op hop x hx => by rw [hu op hop, hn] at hx; cases hx), seen_app h.seen (fun op hop => by rw [hu op hop, hya]; exact hB), h.norel.app (fun op hop => by rw [hu op hop, hya]; simp), fun i a ha hm hw => ?_,
  yfn h.others fun op hop => .inr (.inl (by rw [hu op hop]; exact hy)), fun r e => ?_, (Deaf_other T hc0 _ (fun op hop => by rw [hu op hop]; exact hy)).trans h.deaf0, hdc⟩
 ·obtain ⟨x, hx, hxa⟩ := touch_of ha
  rcases getElem?_append_cases hx with ⟨_, hx'⟩ | ⟨_, hxu⟩
  ·refine (h.known i a (by rw [touchAt_of hx']; exact hxa) hm hw).imp id fun k => ?_
   exact .inr (Knows.hb_new k (Nat.le_refl _) hlast hy)
  ·rw [hu x hxu, hn] at hxa; cases hxa
 ·cases e
  refine ⟨by rw [act?_of hlast, hya], by simp [Trace.g?, hy], ⟨c, by simp [Trace.g?, hy], by rw [deaf_old (Nat.le_refl _)]; exact h.deafc⟩, fun i hi hg => ?_⟩
  obtain ⟨op, ho, _⟩ := Option.map_eq_some_iff.1 hg
  have := lt_size_of_getElem? ho
  simp at this
  omega
theorem Mid.tail (h : Mid Shun B Wg c d0 dc rel T) (hrel : rel ≠ none) (hc0 : c ≠ 0) (fn : FuncId) (pos : String) (es : Array Event)
  (hes : ∀ (j : Nat) e, es[j]? = some e → (e.loc = .mark .disable ∨ e.loc = .mark .enable) ∨ ((∃ ad wr, e = ⟨.cell ad, wr, true⟩ ∧ ad.block = Wg) ∧ 0 < deafBehind dc (es.extract 0 j))) (hB : Wg < B) :
  Mid Shun B Wg c d0 (deafBehind dc es) rel (T ++ MemOp.ofEvents c fn pos es) := by
 have hu : ∀ op ∈ MemOp.ofEvents c fn pos es, op.g = c := yfg
 have kinds : ∀ op ∈ MemOp.ofEvents c fn pos es, (op.act = .mark .disable ∨ op.act = .mark .enable) ∨ ∃ ad wr, op.act = .access ⟨.cell ad, wr, true⟩ ∧ ad.block = Wg := by
  intro op hop
  obtain ⟨e, he, rfl⟩ := Go.Conc.mem_ofEvents hop
  obtain ⟨j, hj, rfl⟩ := Array.mem_iff_getElem.1 he
  rcases hes j _ (Array.getElem?_eq_getElem hj) with q | ⟨⟨ad, wr, e1, e2⟩, _⟩
  ·left
   generalize es[j] = e at q
   obtain ⟨loc, a, b⟩ := e
   rcases q with q | q <;> (cases q; simp [MemAct.ofEvent])
  ·right
   refine ⟨ad, wr, ?_, e2⟩
   show MemAct.ofEvent es[j] = _
   rw [e1]; rfl
 have tch : ∀ op ∈ MemOp.ofEvents c fn pos es, ∀ x, op.act.touch? = some x → x.kind = .atomic ∧ OfW Wg x.loc := by
  intro op hop x hx
  rcases kinds op hop with (e | e) | ⟨ad, wr, e, hb⟩
  ·rw [e] at hx; cases hx
  ·rw [e] at hx; cases hx
  ·rw [e] at hx
   simp only [MemAct.touch?, Option.some.injEq] at hx
   subst hx
   exact ⟨rfl, ad, rfl, hb⟩
 refine ⟨fun said => noRace_append (h.clean said) hu fun i a ha op hop b hb hcf => ?_, h.hush.app (fun op hop x hx hw => ?_), seen_app h.seen (fun op hop => ?_), h.norel.app (fun op hop => ?_), fun i a ha hm hw => ?_,
  yfn h.others fun op hop => .inr (.inl (hu op hop)), ypz h.relat fun _ i hi hg hcn => ?_, (Deaf_other T hc0 _ hu).trans h.deaf0, by rw [Deaf_own, h.deafc]⟩
 ·obtain ⟨hk, hw⟩ := tch op hop b hb
  exact ysh h.hush hw (by rw [hk]; simp) (fun e => by rw [hk] at e; cases e) ha hcf
 ·obtain ⟨hk, _⟩ := tch op hop x hx
  exact ⟨by rw [hk]; simp, fun e => by rw [hk] at e; cases e⟩
 ·rcases kinds op hop with (e | e) | ⟨ad, wr, e, hb⟩
  ·rw [e]; trivial
  ·rw [e]; trivial
  ·rw [e]; show ad.block < B; omega
 ·rcases kinds op hop with (e | e) | ⟨ad, wr, e, hb⟩ <;> rw [e] <;> simp
 ·obtain ⟨x, hx, hxa⟩ := touch_of ha
  rcases getElem?_append_cases hx with ⟨_, hx'⟩ | ⟨_, hxu⟩
  ·exact (h.known i a (by rw [touchAt_of hx']; exact hxa) hm hw).imp id (·.app _)
  ·exact absurd (tch x hxu a hxa).2 hw
 ·-- it does not count: it is atomic, and not heard
  obtain ⟨x, hx, _, hk⟩ := hcn
  obtain ⟨op, ho, hox⟩ := touch_of hx
  rcases getElem?_append_cases ho with ⟨hlt, _⟩ | ⟨_, hou⟩
  ·omega
  ·obtain ⟨hat, _⟩ := tch op hou x hox
   rcases hk with hk | ⟨g, hg', hd⟩
   ·exact hk hat
   ·obtain rfl : g = c := by
     have : (T ++ MemOp.ofEvents c fn pos es).g? i = some op.g := by simp [Trace.g?, ho]
     rw [this] at hg'
     rw [← Option.some.inj hg']; exact hu op hou
    obtain ⟨j, rfl⟩ : ∃ j, i = T.size + j := ⟨i - T.size, by omega⟩
    have hjs : j < es.size := by
     have := lt_size_of_getElem? ho
     simp [ofEvents_eq] at this
     exact this
    rw [deaf_inside T g fn pos es j (by omega), h.deafc] at hd
    have ho' : op.act = MemAct.ofEvent es[j] := by
     rw [Array.getElem?_append_right (by omega)] at ho
     simp only [ofEvents_eq, Nat.add_sub_cancel_left, Array.getElem?_map, Array.getElem?_eq_getElem hjs, Option.map_some, Option.some.injEq] at ho
     rw [← ho]
    rcases hes j _ (Array.getElem?_eq_getElem hjs) with q | ⟨_, hpos⟩
    ·generalize es[j] = e at q ho'
     obtain ⟨loc, a, b⟩ := e
     rcases q with q | q <;> (cases q; rw [ho'] at hox; cases hox)
    ·omega
theorem Mid.acquire (h : Mid Shun B Wg c 0 dc rel T) (hrel : rel ≠ none) (hc0 : c ≠ 0) {y : MemOp} (hy : y.g = 0) (hya : y.act = .mark (.acquire (wA Wg))) (hB : Wg < B) : Past (fun l => Shun l ∨ OfW Wg l) B (T ++ #[y]) := by
 have hu : ∀ op ∈ (#[y] : Trace), op = y := fun op hop => by simpa using hop
 have hlast : (T ++ #[y])[T.size]? = some y := by rw [Array.getElem?_append_right (Nat.le_refl _)]; simp
 have hn : y.act.touch? = none := by rw [hya]; rfl
 obtain ⟨r, rfl⟩ := Option.ne_none_iff_exists'.1 hrel
 obtain ⟨r1, r2, r3, r4⟩ := h.relat r rfl
 have hrlt : r < T.size := lt_of_act? r1
 have nr : NoRel Wg (T ++ #[y]) := h.norel.app (fun op hop => by rw [hu op hop, hya]; simp)
 have hq : (T ++ #[y]).heard T.size := ⟨0, by simp [Trace.g?, hy], by rw [deaf_old (Nat.le_refl _)]; exact h.deaf0⟩
 have edge : HappensBefore (T ++ #[y]) r T.size := .single (.inr ⟨.marked hrlt (.inr (by rw [act?_old hrlt]; exact r1)) (by rw [act?_of hlast, hya]) (fun k _ _ => nr k), (heard_old hrlt).2 r3, hq⟩)
 have kn : ∀ i, Before T i r → Knows (T ++ #[y]) 0 i := fun i hb => ⟨T.size, y, hlast, hy, .inr (Before.hb (hb.app _) edge)⟩
 refine ⟨fun said => noRace_append (g := 0) (h.clean said) (fun op hop => by rw [hu op hop]; exact hy) fun i a _ op hop b hb _ => (by rw [hu op hop, hn] at hb; cases hb), fun i a ha hm => ?_, fun i g hg hg0 hcn => ?_, ?_, seen_app h.seen (fun op hop => by rw [hu op hop, hya]; exact hB)⟩
 ·obtain ⟨x, hx, hxa⟩ := touch_of ha
  rcases getElem?_append_cases hx with ⟨_, hx'⟩ | ⟨_, hxu⟩
  ·by_cases hw : OfW Wg a.loc
   ·obtain ⟨h1, h2⟩ := h.hush i x a hx' hxa hw
    cases hk : a.kind with
    |plain => exact absurd hk h1
    |atomic => exact .inr ⟨.inr hw, rfl⟩
    |said =>
     have := knows_own hx
     rw [h2 hk] at this
     exact .inl this
   ·rcases h.known i a (by rw [touchAt_of hx']; exact hxa) hm hw with ⟨e1, e2⟩ | k
    ·exact .inr ⟨.inl e1, e2⟩
    ·exact .inl (kn i k)
  ·rw [hu x hxu, hn] at hxa; cases hxa
 ·by_cases hgc : g = c
  ·subst hgc
   obtain ⟨x, hx, _⟩ := id hcn
   obtain ⟨op, ho, hox⟩ := touch_of hx
   rcases getElem?_append_cases ho with ⟨hlt, ho'⟩ | ⟨_, hou⟩
   ·have hgi : T.g? i = some g := by rw [← g?_old (u := #[y]) hlt]; exact hg
    have hle : i ≤ r := Nat.le_of_not_lt fun hl => r4 i hl hgi ((counts_old hlt).1 hcn)
    refine ⟨T.size, by simp [Trace.g?, hy], ?_⟩
    rcases Nat.lt_or_ge i r with hl | hl
    ·exact .trans (hb_app _ (.single (.inl ⟨hl, g, hgi, r2⟩))) edge
    ·obtain rfl : i = r := by omega
     exact edge
   ·rw [hu op hou, hn] at hox; cases hox
  ·exact yfn h.others (fun op hop => .inl (by rw [hu op hop]; exact hy)) i g hg hg0 hgc hcn
 ·rw [Deaf_push, h.deaf0]; unfold deafStep; rw [hya]
theorem Mid.init (h : Pre Shun B Wg 0 T) (hc0 : c ≠ 0) (hdc : Deaf T c = 0) {x y : MemOp} (hx : x.g = 0 ∧ x.act = .go c) (hy : y.g = c ∧ y.act = .start) : Mid Shun B Wg c 0 0 none ((T.push x).push y) := by
 have e : (T.push x).push y = T ++ #[x, y] := by apply Array.toList_inj.1; simp
 have e2 : (T.push x).push y = (T ++ #[x]) ++ #[y] := by apply Array.toList_inj.1; simp
 have ex : (T ++ #[x, y])[T.size]? = some x := by simp
 have ey : (T ++ #[x, y])[T.size + 1]? = some y := by simp
 have hu : ∀ op ∈ (#[x, y] : Trace), op = x ∨ op = y := fun op hop => by simpa using hop
 have hn : ∀ op ∈ (#[x, y] : Trace), op.act.touch? = none := fun op hop => by rcases hu op hop with rfl | rfl; rw [hx.2]; rfl; rw [hy.2]; rfl
 have hkeep : ∀ g, Deaf (T ++ #[x, y]) g = Deaf T g := by
  intro g
  have e3 : T ++ #[x, y] = (T ++ #[x]) ++ #[y] := by apply Array.toList_inj.1; simp
  rw [e3, Deaf_push, Deaf_push]
  unfold deafStep
  rw [hx.2, hy.2]
 have hg : (T ++ #[x, y]).heard T.size := ⟨0, by simp [Trace.g?, hx.1], by rw [deaf_old (Nat.le_refl _)]; exact h.deaf0⟩
 have hs : (T ++ #[x, y]).heard (T.size + 1) := by
  refine ⟨c, by simp [Trace.g?, hy.1], ?_⟩
  have e3 : T ++ #[x, y] = (T ++ #[x]) ++ #[y] := by apply Array.toList_inj.1; simp
  have hsz : (T ++ #[x]).size = T.size + 1 := by simp
  rw [e3, ← hsz, deaf_old (Nat.le_refl _)]
  show Deaf (T ++ #[x]) c = 0
  rw [Deaf_push, hdc]; unfold deafStep; rw [hx.2]
 have edge : HappensBefore (T ++ #[x, y]) T.size (T.size + 1) := .single (.inr ⟨.spawn (child := c) (by rw [act?_of ex, hx.2]) (by rw [act?_of ey, hy.2]) (by simp [Trace.g?, hy.1]), hg, hs⟩)
 refine ⟨fun said => ?_, by rw [e]; exact h.hush.app (fun op hop z hz => by rw [hn op hop] at hz; cases hz), by rw [e]; exact seen_app h.seen (fun op hop => by rcases hu op hop with rfl | rfl; rw [hx.2]; trivial; rw [hy.2]; trivial), by rw [e]; exact h.norel.app (fun op hop => by rcases hu op hop with rfl | rfl; rw [hx.2]; simp; rw [hy.2]; simp), fun i a ha hm hw => ?_, fun i g hgi hg0 hgc' hcn => ?_, fun r er => (by cases er), (by rw [e, hkeep]; exact h.deaf0), (by rw [e, hkeep]; exact hdc)⟩
 ·rw [e2]
  have ox : ∀ op ∈ (#[x] : Trace), op = x := fun op hop => by simpa using hop
  have oy : ∀ op ∈ (#[y] : Trace), op = y := fun op hop => by simpa using hop
  refine noRace_append (g := c) (noRace_append (g := 0) (h.clean said) (fun op hop => (by rw [ox op hop]; exact hx.1)) fun i a _ op hop b hb _ => ?_) (fun op hop => (by rw [oy op hop]; exact hy.1)) fun i a _ op hop b hb _ => ?_
  ·rw [ox op hop, hx.2] at hb; cases hb
  ·rw [oy op hop, hy.2] at hb; cases hb
 ·rw [e] at ha ⊢
  obtain ⟨z, hz, hza⟩ := touch_of ha
  rcases getElem?_append_cases hz with ⟨_, hz'⟩ | ⟨_, hzu⟩
  ·rcases h.known i a (by rw [touchAt_of hz']; exact hza) hm with k | k
   ·exact .inr ⟨T.size + 1, y, ey, hy.1, .inr ((Knows.hb_new k (Nat.le_refl _) ex hx.1).trans edge)⟩
   ·exact .inl k
  ·rw [hn z hzu] at hza; cases hza
 ·rw [e] at hgi hcn ⊢
  obtain ⟨z, hz, _⟩ := id hcn
  obtain ⟨op, ho, hoz⟩ := touch_of hz
  rcases getElem?_append_cases ho with ⟨hlt, _⟩ | ⟨_, hou⟩
  ·obtain ⟨j, hj, hb⟩ := h.over i g (by rw [← g?_old (u := #[x, y]) hlt]; exact hgi) hg0 ((counts_old hlt).1 hcn)
   have hjl : j < T.size := by
    unfold Trace.g? at hj
    obtain ⟨z, hz, _⟩ := Option.map_eq_some_iff.1 hj
    exact lt_size_of_getElem? hz
   exact ⟨j, by rw [g?_old hjl]; exact hj, hb_app _ hb⟩
  ·rw [hn op hou] at hoz; cases hoz
end
end Go.Sim
