/- What is drawn is never given back. Pieces of the model's doing that two programs do alike in two worlds: worlds that are one but for their tapes and for blocks that are bare in the second: whoever ends well in the second has touched none of them. The model's own operations are done alike. The model's own operations are done alike: instructions. The model's own operations are done alike: maps, comparisons, conversions, builtins. The model's own operations are done alike: maps, arithmetic, conversions, builtins. The model's own operations are done alike: conversions, builtins, methods, calls. append is done alike. The model's own operations are done alike: complex numbers. -/
import GoSem.Step

set_option linter.unusedVariables false
set_option linter.unusedSimpArgs false
set_option linter.unusedSectionVars false
set_option maxHeartbeats 4000000

namespace Go.Sim
theorem ymb {p : Program} {w w' : World} {at_ : Addr} {u : TypeId} {k : Addr} {v : Value} {m : Bool} {l : List Addr} (h : w.viewStore p at_ u k v m = .ok (w', l)) : w'.drawn = w.drawn := by
 unfold World.viewStore at h
 simp only [bind, Except.bind, pure, Except.pure] at h
 repeat' split at h
 all_goals first | (cases h; done) | skip
 all_goals (cases h; rfl)
theorem ymh {p : Program} {w w' : World} {a : Addr} {v : Value} {m : Bool} {l : List Addr} (h : w.farStore p a v m = .ok (w', l)) : w'.drawn = w.drawn := by
 unfold World.farStore at h
 split at h
 ·split at h
  ·next r e =>
   obtain ⟨x, y⟩ := r
   cases h
   exact ymb e
  ·cases h
 ·cases h
theorem ask_drawn {α : Type} (a : Ask α) : ∀ w : World, w.drawn ≤ (w.ask a).2.drawn := by
 induction a with
 |done a => exact fun w => Nat.le_refl _
 |ask what range k ih =>
  intro w
  unfold World.ask
  dsimp only
  split
  ·exact ih _ w
  ·exact Nat.le_trans (Nat.le_succ _) (ih _ { w with drawn := w.drawn + 1 })
theorem sys_drawn (w : World) (c : Sys) : w.drawn ≤ (w.sys c).2.drawn := by
 have := ask_drawn (Kernel.perform c w.os) w
 unfold World.sys
 revert this
 generalize w.ask (Kernel.perform c w.os) = x
 obtain ⟨⟨r, o⟩, w1⟩ := x
 intro h
 cases r <;> first | exact Nat.le_refl _ | exact h
def _root_.Go.Result.wd {α : Type} : Result α → World
 |.ok _ w => w
 |.halt _ w => w
theorem yff {α : Type} (P : Program) (s : Sem α) : ∀ w : World, w.drawn ≤ (s.run P w).wd.drawn := by
 induction s with
 |pure a => exact fun w => Nat.le_refl _
 |halt h => exact fun w => Nat.le_refl _
 |load m a k ih =>
  intro w
  simp only [Sem.run]
  repeat' split
  ·exact ih _ _
  ·exact ih _ _
  ·exact Nat.le_refl _
 |store m a v k ih =>
  intro w
  have key : w.drawn ≤ (match w.cell? a with
   |some _ => if w.frozen? a then .halt (.unsupported (.unsafePointer "a write to bytes that a string shares")) w else k.run P (w.setCell a v)
   |none => match w.farStore P a v (m == .atomic) with
    |.ok (w, _) => k.run P w
    |.error h => .halt h w : Result _).wd.drawn := by
   repeat' split
   ·exact Nat.le_refl _
   ·exact ih (w.setCell a v)
   ·next x w' l e => rw [← ymh e]; exact ih w'
   ·exact Nat.le_refl _
  cases v <;> first | exact Nat.le_refl _ | exact key
 |new o k ih => intro w; exact ih _ { w with heap := w.heap.push o }
 |shape r k ih => exact fun w => ih _ w
 |freeze a n k ih => intro w; simp only [Sem.run]; have : (w.freeze a n).drawn = w.drawn := by (unfold World.freeze; split <;> rfl)
                     rw [← this]; exact ih _
 |frozen a k ih => exact fun w => ih _ w
 |getObj r k ih =>
  intro w
  simp only [Sem.run]
  repeat' split
  ·exact Nat.le_refl _
  ·exact ih _ _
  ·exact Nat.le_refl _
 |setObj r o k ih =>
  intro w
  simp only [Sem.run]
  repeat' split
  ·exact Nat.le_refl _
  ·exact ih { w with heap := w.heap.setIfInBounds r o }
  ·exact Nat.le_refl _
 |choose q k ih =>
  intro w
  simp only [Sem.run]
  split
  ·exact ih _ w
  ·exact Nat.le_trans (Nat.le_succ _) (ih _ { w with drawn := w.drawn + 1 })
 |sys c k ih => intro w; exact Nat.le_trans (sys_drawn w c) (ih _ _)
 |program k ih => exact fun w => ih _ w
 |mark m k ih => exact fun w => ih w
def _root_.Go.Obj.odd : Obj → Bool
 |.view .. | .loop .. | .pending .. => true
 |_ => false
def _root_.Go.Obj.dull : Obj → Obj
 |.view .. => .view ⟨0, 0, some default⟩ 0
 |_ => .coro none
def _root_.Go.Obj.tamed (o : Obj) : Obj := if o.odd then o.dull else o
def _root_.Go.Obj.fit : Obj → Bool
 |.view .. | .loop .. | .pending .. | .coro .. => false
 |_ => true
theorem fit_odd {o : Obj} (h : o.fit = true) : o.odd = false := by cases o <;> first | rfl | cases h
theorem yhb {o : Obj} (h : o.odd = false) : o.tamed = o := by simp [Obj.tamed, h]
structure Lim where
 lim : Nat
 up : Nat
 dn : Nat
 tw : Nat → Question → Nat
 tv : Nat → Question → Nat
structure Rel (X : Nat → Prop) (L : Lim) (w v : World) : Prop where
 size : v.heap.size = w.heap.size
 same : ∀ b, ¬ X b → v.heap[b]? = (w.heap[b]?).map Obj.tamed
 bare : ∀ b, X b → ∃ c t, w.heap[b]? = some (.cells c t (0, 0)) ∧ v.heap[b]? = some (.cells #[] t (0, 0))
 os : v.os = w.os
 output : v.output = w.output
 fut : ∀ i, v.drawn + i < L.lim → v.tape (v.drawn + i) = w.tape (w.drawn + i)
 cnt : w.drawn + L.dn = v.drawn + L.up
 tw : w.tape = L.tw
 tv : v.tape = L.tv
def yij : Mark → Bool
 |.extern _ | .noRoom => true
 |_ => false
def yjj (X : Nat → Prop) (n : Nat) (e : Event) : Prop :=
 match e.loc with
 |.cell a => ¬ X a.block ∧ a.block < n
 |.obj r => ¬ X r ∧ r < n
 |.mark m => yij m = true
 |.output => True
 |_ => False
def yhm : Halt → Bool
 |.unsupported (.initOrder _) => false
 |.unsupported _ | .stuck _ => true
 |_ => false
def okH : Halt → Bool
 |.panic _ => true
 |x => yhm x
structure ycs (X : Nat → Prop) (w w' : World) : Prop where
 size : w.heap.size ≤ w'.heap.size
 keep : ∀ b, X b → w'.heap[b]? = w.heap[b]?
 odd : ∀ (b : Nat) (o : Obj), w.heap[b]? = some o → w'.heap[b]? = some o ∨ ∃ o' : Obj, w'.heap[b]? = some o' ∧ o'.fit = true
theorem ycs.refl (X : Nat → Prop) (w : World) : ycs X w w := ⟨Nat.le_refl _, fun _ _ => rfl, fun _ _ h => .inl h⟩
theorem ycs.trans {X : Nat → Prop} {a b c : World} (h : ycs X a b) (k : ycs X b c) : ycs X a c := ⟨Nat.le_trans h.size k.size, fun x hx => (k.keep x hx).trans (h.keep x hx), fun x o ho => by
 rcases h.odd x o ho with e | ⟨o', e, hf⟩
 ·exact k.odd x o e
 ·rcases k.odd x o' e with e2 | e2
  ·exact .inr ⟨o', e2, hf⟩
  ·exact .inr e2⟩
theorem ycs.of_heap {X : Nat → Prop} {w w' : World} (h : w'.heap = w.heap) : ycs X w w' := ⟨by rw [h]; exact Nat.le_refl _, fun _ _ => by rw [h], fun _ _ e => .inl (by rw [h]; exact e)⟩
def Meets (X : Nat → Prop) (L : Lim) {α : Type} (Esc : α → Prop) (w : World) (es : Array Event) (r : Result α × Array Event) (res : Result α) : Prop :=
 res.wd.drawn ≤ L.lim → match res with
 |.ok a v' => Esc a ∨ ∃ w' new, r = (.ok a w', es ++ new) ∧ Rel X L w' v' ∧ ycs X w w' ∧ ∀ e ∈ new, yjj X w'.heap.size e
 |.halt x v' => okH x = true ∧ ∀ y, x = .panic y → ∃ w' new, r = (.halt (.panic y) w', es ++ new) ∧ Rel X L w' v' ∧ ycs X w w' ∧ ∀ e ∈ new, yjj X w'.heap.size e
def yac (P Q : Program) (X : Nat → Prop) {α : Type} (Esc : α → Prop) (s : Sem α) : Prop :=
 ∀ L w v es, Rel X L w v → Meets X L Esc w es (s.runT P w es) (s.run Q v)
abbrev Sim (P Q : Program) (X : Nat → Prop) {α : Type} (s : Sem α) : Prop := yac P Q X (fun _ => False) s
section
variable {X : Nat → Prop} {L : Lim} {w v : World}
theorem Rel.xcell (h : Rel X L w v) {a : Addr} (hX : X a.block) : v.cell? a = none := by
 obtain ⟨c, t, _, hv⟩ := h.bare _ hX
 simp [World.cell?, hv]
theorem Rel.xlt (h : Rel X L w v) {b : Nat} (hX : X b) : b < w.heap.size := by
 obtain ⟨c, t, hw, _⟩ := h.bare _ hX
 exact (Array.getElem?_eq_some_iff.1 hw).1
def Wild (o : Obj) : Prop := (∃ c t, o = .pending c t) ∨ (∃ l, o = .loop l) ∨ (∃ a t, o = .view a t ∧ a.spot.isSome = false)
theorem yhk (o : Obj) : ¬ Wild o.tamed := by
 rintro (⟨c, t, e⟩ | ⟨l, e⟩ | ⟨a, t, e, h⟩) <;> cases o <;> simp [Obj.tamed, Obj.odd, Obj.dull] at e
 obtain ⟨rfl, _⟩ := e
 cases h
theorem Rel.nov (h : Rel X L w v) {b : Nat} {o : Obj} (ho : v.heap[b]? = some o) : ¬ Wild o := by
 by_cases hX : X b
 ·obtain ⟨c, t, _, hv⟩ := h.bare _ hX
  rw [hv] at ho
  cases ho
  rintro (⟨c, t, e⟩ | ⟨l, e⟩ | ⟨a, t, e, h⟩) <;> cases e
 ·rw [h.same b hX, Option.map_eq_some_iff] at ho
  obtain ⟨x, _, rfl⟩ := ho
  exact yhk x
theorem Rel.cell (h : Rel X L w v) {a : Addr} {x : Value} (hc : v.cell? a = some x) : w.cell? a = some x ∧ ¬ X a.block ∧ a.block < w.heap.size := by
 by_cases hX : X a.block
 ·rw [h.xcell hX] at hc; cases hc
 ·have e := h.same _ hX
  unfold World.cell? at hc ⊢
  rw [e] at hc
  cases hw : w.heap[a.block]? with
  |none => rw [hw] at hc; cases hc
  |some o =>
   rw [hw] at hc
   cases o <;> simp [Obj.tamed, Obj.odd, Obj.dull] at hc
   refine ⟨?_, hX, (Array.getElem?_eq_some_iff.1 hw).1⟩
   simpa using hc
theorem Rel.frozen (h : Rel X L w v) (a : Addr) : v.frozen? a = w.frozen? a := by
 by_cases hX : X a.block
 ·obtain ⟨c, t, hw, hv⟩ := h.bare _ hX
  simp [World.frozen?, hv, hw]
 ·unfold World.frozen?
  rw [h.same _ hX]
  cases w.heap[a.block]? with
  |none => rfl
  |some o => cases o <;> rfl
theorem yle (h : Rel X L w v) (a : Addr) (s : String) : yhm (v.noCell a s) = true := by
 unfold World.noCell
 cases hv : v.heap[a.block]? with
 |none => rfl
 |some o =>
  have := h.nov hv
  cases o <;> first | rfl | exact absurd (.inl ⟨_, _, rfl⟩) this
theorem yqw {p : Program} {w : World} {at_ : Addr} {u : TypeId} {k : Addr} {m : Bool} (h : at_.spot.isSome = true) : ∃ y, w.seen p at_ u k m = .error y := by
 unfold World.seen
 rw [h]
 cases k.spot.isSome <;> exact ⟨_, rfl⟩
theorem Rel.far (h : Rel X L w v) (P : Program) (a : Addr) (m : Bool) : ∃ x, v.farLoad P a m = .error x ∧ yhm x = true := by
 unfold World.farLoad
 split
 ·next at_ u e =>
  have hs : at_.spot.isSome = true := by
   cases hh : at_.spot.isSome with
   |true => rfl
   |false => exact absurd (.inr (.inr ⟨_, _, rfl, hh⟩)) (h.nov e)
  obtain ⟨y, hy⟩ := yqw (p := P) (w := v) (u := u) (k := a) (m := m) hs
  unfold World.viewLoad
  rw [hy]
  exact ⟨_, rfl, rfl⟩
 ·exact ⟨_, rfl, yle h a _⟩
theorem Rel.farS (h : Rel X L w v) (P : Program) (a : Addr) (z : Value) (m : Bool) : ∃ x, v.farStore P a z m = .error x ∧ yhm x = true := by
 unfold World.farStore
 split
 ·next at_ u e =>
  have hs : at_.spot.isSome = true := by
   cases hh : at_.spot.isSome with
   |true => rfl
   |false => exact absurd (.inr (.inr ⟨_, _, rfl, hh⟩)) (h.nov e)
  obtain ⟨y, hy⟩ := yqw (p := P) (w := v) (u := u) (k := a) (m := m) hs
  unfold World.viewStore
  rw [hy]
  cases tight P P.depth u <;> exact ⟨_, rfl, rfl⟩
 ·exact ⟨_, rfl, yle h a _⟩
end
variable {P Q : Program} {X : Nat → Prop} {L : Lim}
theorem ysm {x : Halt} (h : yhm x = true) : okH x = true := by
 cases x <;> first | rfl | exact h
theorem Meets.halt {α : Type} {Esc : α → Prop} {w : World} {es : Array Event} {r : Result α × Array Event} {x : Halt} {v : World} (h : yhm x = true) : Meets X L Esc w es r (.halt x v) :=
 fun _ => ⟨ysm h, fun y e => by subst e; cases h⟩
theorem yac.pure {α : Type} {Esc : α → Prop} (a : α) : yac P Q X Esc (Sem.pure a) := fun L w v es h _ => .inr ⟨w, #[], by simp [Sem.runT], h, .refl X w, by simp⟩
theorem yjj.mono {n m : Nat} {e : Event} (h : yjj X n e) (hn : n ≤ m) : yjj X m e := by
 unfold yjj at h ⊢
 split <;> simp_all <;> omega
theorem yil {α β : Type} (P : Program) (x : Sem α) (f : α → Sem β) (w : World) (es : Array Event) :
  (x.bind f).runT P w es = match x.runT P w es with
   |(.ok a w', es') => (f a).runT P w' es'
   |(.halt h w', es') => (.halt h w', es') := by
 induction x generalizing w es with
 |pure a => simp [Sem.bind, Sem.runT]
 |load m a k ih => simp only [Sem.bind, Sem.runT]; (repeat' split) <;> simp_all
 |store m a v k ih => cases v <;> simp only [Sem.bind, Sem.runT] <;> (try ((repeat' split) <;> simp_all))
 |new o k ih => simp [Sem.bind, Sem.runT, ih]
 |shape r k ih => simp [Sem.bind, Sem.runT, ih]
 |freeze a n k ih => simp [Sem.bind, Sem.runT, ih]
 |frozen a k ih => simp [Sem.bind, Sem.runT, ih]
 |getObj r k ih => simp only [Sem.bind, Sem.runT]; (repeat' split) <;> simp_all
 |setObj r o k ih => simp only [Sem.bind, Sem.runT]; (repeat' split) <;> simp_all
 |choose q k ih => simp only [Sem.bind, Sem.runT]; (repeat' split) <;> simp_all
 |sys c k ih => simp [Sem.bind, Sem.runT, ih]
 |program k ih => simp [Sem.bind, Sem.runT, ih]
 |mark m k ih => simp [Sem.bind, Sem.runT, ih]
 |halt h => simp [Sem.bind, Sem.runT]
theorem run_bind {α β : Type} (P : Program) (x : Sem α) (f : α → Sem β) (w : World) :
  (x.bind f).run P w = match x.run P w with
   |.ok a w' => (f a).run P w'
   |.halt h w' => .halt h w' := by
 induction x generalizing w with
 |pure a => simp [Sem.bind, Sem.run]
 |load m a k ih => simp only [Sem.bind, Sem.run]; (repeat' split) <;> simp_all
 |store m a v k ih => cases v <;> simp only [Sem.bind, Sem.run] <;> (try ((repeat' split) <;> simp_all))
 |new o k ih => simp [Sem.bind, Sem.run, ih]
 |shape r k ih => simp [Sem.bind, Sem.run, ih]
 |freeze a n k ih => simp [Sem.bind, Sem.run, ih]
 |frozen a k ih => simp [Sem.bind, Sem.run, ih]
 |getObj r k ih => simp only [Sem.bind, Sem.run]; (repeat' split) <;> simp_all
 |setObj r o k ih => simp only [Sem.bind, Sem.run]; (repeat' split) <;> simp_all
 |choose q k ih => simp only [Sem.bind, Sem.run]; (repeat' split) <;> simp_all
 |sys c k ih => simp [Sem.bind, Sem.run, ih]
 |program k ih => simp [Sem.bind, Sem.run, ih]
 |mark m k ih => simp [Sem.bind, Sem.run, ih]
 |halt h => simp [Sem.bind, Sem.run]
theorem Meets.step {α : Type} {Esc : α → Prop} {w w1 : World} {es pre : Array Event} {r : Result α × Array Event} {res : Result α} (h : Meets X L Esc w1 (es ++ pre) r res) (hs : ycs X w w1) (hp : ∀ e ∈ pre, yjj X w1.heap.size e) : Meets X L Esc w es r res := by
 intro hL
 have h' := h hL
 clear h
 cases res with
 |ok b v' =>
  rcases h' with q | ⟨w', new, e, hR, hs', hn⟩
  ·exact .inl q
  ·exact .inr ⟨w', pre ++ new, by rw [e, Array.append_assoc], hR, hs.trans hs', fun x hx => (Array.mem_append.1 hx).elim (fun q => (hp x q).mono hs'.size) (hn x)⟩
 |halt x v' =>
  refine ⟨h'.1, fun y hy => ?_⟩
  obtain ⟨w', new, e, hR, hs', hn⟩ := h'.2 y hy
  exact ⟨w', pre ++ new, by rw [e, Array.append_assoc], hR, hs.trans hs', fun x hx => (Array.mem_append.1 hx).elim (fun q => (hp x q).mono hs'.size) (hn x)⟩
theorem Meets.push {α : Type} {Esc : α → Prop} {w w1 : World} {es : Array Event} {x : Event} {r : Result α × Array Event} {res : Result α} (h : Meets X L Esc w1 (es.push x) r res) (hs : ycs X w w1) (hp : yjj X w1.heap.size x) : Meets X L Esc w es r res :=
 Meets.step (pre := #[x]) (by simpa using h) hs (by simpa using hp)
theorem Meets.late {α : Type} {Esc : α → Prop} {w : World} {es : Array Event} {r : Result α × Array Event} {res : Result α} (h : L.lim < res.wd.drawn) : Meets X L Esc w es r res := fun hL => absurd hL (Nat.not_le.2 h)
theorem yac.bind {α β : Type} {Esc : β → Prop} {s : Sem α} {f : α → Sem β} (h : Sim P Q X s) (hf : ∀ a, yac P Q X Esc (f a)) : yac P Q X Esc (s.bind f) := by
 intro L w v es hR hL
 have h1 := h L w v es hR
 rw [run_bind] at hL ⊢
 rw [yil]
 generalize s.run Q v = r at h1 hL
 cases r with
 |ok a v' =>
  have hm : v'.drawn ≤ ((f a).run Q v').wd.drawn := yff Q (f a) v'
  rcases h1 (Nat.le_trans hm hL) with h1 | ⟨w', new, e, hR', hs, hn⟩
  ·exact h1.elim
  rw [e]
  exact (Meets.step (hf a L w' v' (es ++ new) hR') hs hn) hL
 |halt y v' =>
  refine ⟨(h1 hL).1, fun z hz => ?_⟩
  obtain ⟨w', new, e, hR', hs, hn⟩ := (h1 hL).2 z hz
  rw [e]
  exact ⟨w', new, rfl, hR', hs, hn⟩
theorem yac.halt {α : Type} {Esc : α → Prop} (x : Halt) (hx : okH x = true := by rfl) : yac P Q X Esc (Sem.halt x : Sem α) := by
 intro L w v es h _
 exact ⟨hx, fun y e => by subst e; exact ⟨w, #[], by simp [Sem.runT], h, .refl X w, by simp⟩⟩
theorem yac.load {α : Type} {Esc : α → Prop} {m : Mode} {a : Addr} {k : Value → Sem α} (hk : ∀ v, yac P Q X Esc (k v)) : yac P Q X Esc (Sem.load m a k) := by
 intro L w v es h
 simp only [Sem.run, Sem.runT]
 cases hc : v.cell? a with
 |none =>
  obtain ⟨x, e, hx⟩ := h.far Q a (m == .atomic)
  simp only [e]
  exact .halt hx
 |some y =>
  obtain ⟨h1, h2, h3⟩ := h.cell hc
  simp only [h1]
  exact (hk y L w v _ h).push (.refl X w) ⟨h2, by omega⟩
theorem Rel.heap {w v : World} (h : Rel X L w v) (b : Nat) (hb : ¬ X b) (o : Obj) (ho : o.odd = false) :
  Rel X L { w with heap := w.heap.setIfInBounds b o } { v with heap := v.heap.setIfInBounds b o } := by
 refine ⟨by simp [h.size], fun c hc => ?_, fun c hc => ?_, h.os, h.output, h.fut, h.cnt, h.tw, h.tv⟩
 ·simp only [Array.getElem?_setIfInBounds, h.size]
  split
  ·split
   ·simp [yhb ho]
   ·rfl
  ·exact h.same c hc
 ·have : b ≠ c := fun e => hb (e ▸ hc)
  simpa only [Array.getElem?_setIfInBounds, this, if_false] using h.bare c hc
theorem Rel.set {w v : World} (h : Rel X L w v) {a : Addr} (hb : ¬ X a.block) (x : Value) : Rel X L (w.setCell a x) (v.setCell a x) := by
 unfold World.setCell
 refine ⟨by simp [h.size], fun c hc => ?_, fun c hc => ?_, h.os, h.output, h.fut, h.cnt, h.tw, h.tv⟩
 ·simp only [Array.getElem?_modify]
  split
  ·rw [h.same c hc]
   cases w.heap[c]? with
   |none => rfl
   |some o => cases o <;> rfl
  ·exact h.same c hc
 ·have : a.block ≠ c := fun e => hb (e ▸ hc)
  simpa only [Array.getElem?_modify, this, if_false] using h.bare c hc
theorem ypw {w : World} {a : Addr} (hb : ¬ X a.block) (x : Value) : ycs X w (w.setCell a x) := by
 unfold World.setCell
 refine ⟨by simp, fun c hc => ?_, fun c o ho => ?_⟩
 ·have : a.block ≠ c := fun e => hb (e ▸ hc)
  simp only [Array.getElem?_modify, this, if_false]
 ·simp only [Array.getElem?_modify]
  split
  ·rw [ho]
   cases o <;> first | exact .inl rfl | exact .inr ⟨_, rfl, rfl⟩
  ·exact .inl ho
theorem yjm {w : World} {a : Addr} (hb : ¬ X a.block) (n : Nat) : ycs X w (w.freeze a n) := by
 unfold World.freeze
 split
 ·exact .refl X w
 refine ⟨by simp, fun c hc => ?_, fun c o ho => ?_⟩
 ·have : a.block ≠ c := fun e => hb (e ▸ hc)
  simp only [Array.getElem?_modify, this, if_false]
 ·simp only [Array.getElem?_modify]
  split
  ·rw [ho]
   cases o <;> first | exact .inl rfl | exact .inr ⟨_, rfl, rfl⟩
  ·exact .inl ho
theorem grows_heap {w : World} {b : Nat} (hb : ¬ X b) (o : Obj) (hfit : o.fit = true) : ycs X w { w with heap := w.heap.setIfInBounds b o } := by
 refine ⟨by simp, fun c hc => ?_, fun c x hx => ?_⟩
 ·have : b ≠ c := fun e => hb (e ▸ hc)
  simp only [Array.getElem?_setIfInBounds, this, if_false]
 ·simp only [Array.getElem?_setIfInBounds]
  split
  ·next e =>
   subst e
   rw [if_pos (Array.getElem?_eq_some_iff.1 hx).1]
   exact .inr ⟨o, rfl, hfit⟩
  ·exact .inl hx
theorem Rel.grows_push {w v : World} (h : Rel X L w v) (o : Obj) : ycs X w { w with heap := w.heap.push o } := by
 refine ⟨by simp, fun c hc => ?_, fun c x hx => ?_⟩
 ·have hne : c ≠ w.heap.size := by have := h.xlt hc; omega
  simp only [Array.getElem?_push, hne, if_false]
 ·have hne : c ≠ w.heap.size := by have := (Array.getElem?_eq_some_iff.1 hx).1; omega
  simp only [Array.getElem?_push, hne, if_false]
  exact .inl hx
theorem yac.store {α : Type} {Esc : α → Prop} {m : Mode} {a : Addr} {x : Value} {k : Sem α} (hk : yac P Q X Esc k) : yac P Q X Esc (Sem.store m a x k) := by
 intro L w v es h
 have key : (∀ l, x ≠ .agg l) → (∀ l, x ≠ .tuple l) → Meets X L Esc w es ((Sem.store m a x k).runT P w es) ((Sem.store m a x k).run Q v) := by
  intro q1 q2
  have e1 : ∀ w, (Sem.store m a x k).run Q w = match w.cell? a with
   |some _ => if w.frozen? a then .halt (.unsupported (.unsafePointer "a write to bytes that a string shares")) w else k.run Q (w.setCell a x)
   |none => match w.farStore Q a x (m == .atomic) with
    |.ok (w, _) => k.run Q w
    |.error h => .halt h w := by
   intro w; cases x <;> first | rfl | exact absurd rfl (q1 _) | exact absurd rfl (q2 _)
  have e2 : ∀ w es, (Sem.store m a x k).runT P w es = match w.cell? a with
   |some _ =>
    if w.frozen? a then (.halt (.unsupported (.unsafePointer "a write to bytes that a string shares")) w, es)
    else k.runT P (w.setCell a x) (es.push ⟨.cell a, true, m == .atomic⟩)
   |none => match w.farStore P a x (m == .atomic) with
    |.ok (w, touched) => k.runT P w (es ++ touched.toArray.map (⟨.cell ·, true, m == .atomic⟩))
    |.error h => (.halt h w, es) := by
   intro w es; cases x <;> first | rfl | exact absurd rfl (q1 _) | exact absurd rfl (q2 _)
  rw [e1, e2]
  cases hc : v.cell? a with
  |none =>
   obtain ⟨y, e, hx⟩ := h.farS Q a x (m == .atomic)
   simp only [e]
   exact .halt hx
  |some y =>
   obtain ⟨h1, h2, h3⟩ := h.cell hc
   simp only [h1, h.frozen a]
   split
   ·exact .halt rfl
   ·have hsz : (w.setCell a x).heap.size = w.heap.size := by simp [World.setCell]
    exact (hk _ _ _ _ (h.set h2 x)).push (ypw h2 x) ⟨h2, by rw [hsz]; exact h3⟩
 cases x with
 |agg l => exact .halt rfl
 |tuple l => exact .halt rfl
 |_ => exact key (fun l e => by cases e) (fun l e => by cases e)
theorem Rel.pushed {w v : World} (h : Rel X L w v) (o : Obj) (ho : o.odd = false) : Rel X L { w with heap := w.heap.push o } { v with heap := v.heap.push o } := by
 refine ⟨by simp [h.size], fun c hc => ?_, fun c hc => ?_, h.os, h.output, h.fut, h.cnt, h.tw, h.tv⟩
 ·simp only [Array.getElem?_push, h.size]
  split
  ·simp [yhb ho]
  ·exact h.same c hc
 ·have hne : c ≠ w.heap.size := by have := h.xlt hc; omega
  simpa only [Array.getElem?_push, h.size, hne, if_false] using h.bare c hc
theorem yac.new {α : Type} {Esc : α → Prop} {o : Obj} {k : Nat → Sem α} (ho : o.odd = false) (hk : ∀ r, yac P Q X Esc (k r)) : yac P Q X Esc (Sem.new o k) := by
 intro L w v es h
 simp only [Sem.run, Sem.runT, h.size]
 refine Meets.step (pre := #[]) (w1 := { w with heap := w.heap.push o }) ?_ (h.grows_push o) (by simp)
 simp only [Array.append_empty]
 exact hk _ _ _ _ _ (h.pushed o ho)
theorem yac.getObj {α : Type} {Esc : α → Prop} {r : Nat} {k : Obj → Sem α} (hd : ∀ o : Obj, o.odd = true → k o = k o.dull ∨ ∀ v, ∃ x v', (k o.dull).run Q v = .halt x v' ∧ yhm x = true) (hk : ∀ o, yac P Q X Esc (k o)) : yac P Q X Esc (Sem.getObj r k) := by
 intro L w v es h
 simp only [Sem.run, Sem.runT]
 by_cases hX : X r
 ·obtain ⟨c, t, hw, hv⟩ := h.bare r hX
  simp only [hv]; exact .halt rfl
 ·have hs := h.same r hX
  cases hw : w.heap[r]? with
  |none => rw [hw] at hs; simp only [hs]; exact .halt rfl
  |some o =>
   have hlt : r < w.heap.size := (Array.getElem?_eq_some_iff.1 hw).1
   rw [hw] at hs
   cases ho : o.odd with
   |false =>
    rw [Option.map_some, yhb ho] at hs
    simp only [hs]
    cases o with
    |cells c t z => exact .halt rfl
    |_ => exact (hk _ _ _ _ _ h).push (.refl X w) ⟨hX, hlt⟩
   |true =>
    have ht : o.tamed = o.dull := by simp [Obj.tamed, ho]
    rw [Option.map_some, ht] at hs
    simp only [hs]
    have key : Meets X L Esc w es ((k o).runT P w (es.push ⟨.obj r, false, o.isChan⟩)) ((k o.dull).run Q v) := by
     rcases hd o ho with e | e
     ·rw [e]; exact (hk _ _ _ _ _ h).push (.refl X w) ⟨hX, hlt⟩
     ·obtain ⟨x, v', e, hx⟩ := e v
      rw [e]
      exact .halt hx
    cases o <;> first | (cases ho; done) | exact key
theorem yac.setObj {α : Type} {Esc : α → Prop} {r : Nat} {o : Obj} {k : Sem α} (hfit : o.fit = true) (hk : yac P Q X Esc k) : yac P Q X Esc (Sem.setObj r o k) := by
 intro L w v es h
 have ho := fit_odd hfit
 simp only [Sem.run, Sem.runT]
 by_cases hX : X r
 ·obtain ⟨c, t, hw, hv⟩ := h.bare r hX
  simp only [hv]; exact .halt rfl
 have fin : ∀ hlt : r < w.heap.size, Meets X L Esc w es (k.runT P { w with heap := w.heap.setIfInBounds r o } (es.push ⟨.obj r, true, o.isChan⟩)) (k.run Q { v with heap := v.heap.setIfInBounds r o }) :=
  fun hlt => (hk _ _ _ _ (h.heap r hX o ho)).push (grows_heap hX o hfit) ⟨hX, by simpa using hlt⟩
 have hs := h.same r hX
 cases hw : w.heap[r]? with
 |none => rw [hw] at hs; simp only [hs]; exact .halt rfl
 |some x =>
  have hlt : r < w.heap.size := (Array.getElem?_eq_some_iff.1 hw).1
  rw [hw] at hs
  cases x <;> simp only [hs, Option.map_some, Obj.tamed, Obj.odd, Obj.dull, if_true, Bool.false_eq_true, if_false] <;> first | exact .halt rfl | exact fin hlt
theorem Rel.drew {w v : World} (h : Rel X L w v) : Rel X L { w with drawn := w.drawn + 1 } { v with drawn := v.drawn + 1 } := by
 refine ⟨h.size, h.same, h.bare, h.os, h.output, fun i hi => ?_, by show w.drawn + 1 + L.dn = v.drawn + 1 + L.up; have := h.cnt; omega, h.tw, h.tv⟩
 show v.tape (v.drawn + 1 + i) = w.tape (w.drawn + 1 + i)
 rw [show v.drawn + 1 + i = v.drawn + (1 + i) by omega, show w.drawn + 1 + i = w.drawn + (1 + i) by omega]
 exact h.fut _ (by dsimp only at hi; omega)
theorem yac.choose {α : Type} {Esc : α → Prop} {q : Question} {k : Nat → Sem α} (hk : ∀ n, yac P Q X Esc (k n)) : yac P Q X Esc (Sem.choose q k) := by
 intro L w v es h
 simp only [Sem.run, Sem.runT]
 split
 ·exact hk _ _ _ _ _ h
 ·by_cases hL : v.drawn < L.lim
  ·have e : v.tape v.drawn = w.tape w.drawn := by simpa using h.fut 0 (by omega)
   rw [e]
   refine Meets.step (pre := #[]) (w1 := { w with drawn := w.drawn + 1 }) ?_ (.of_heap rfl) (by simp)
   simp only [Array.append_empty]
   exact hk _ _ _ _ _ h.drew
  ·exact Meets.late (Nat.lt_of_lt_of_le (by show L.lim < v.drawn + 1; omega) (yff Q _ { v with drawn := v.drawn + 1 }))
theorem yac.program {α : Type} {Esc : α → Prop} {k : Program → Sem α} (e : k P = k Q) (hk : yac P Q X Esc (k Q)) : yac P Q X Esc (Sem.program k) := by
 intro L w v es h
 simp only [Sem.run, Sem.runT, e]
 exact hk _ _ _ _ h
theorem yac.mark {α : Type} {Esc : α → Prop} {m : Mark} {k : Sem α} (hm : yij m = true) (hk : yac P Q X Esc k) : yac P Q X Esc (Sem.mark m k) := by
 intro L w v es h
 simp only [Sem.run, Sem.runT]
 exact (hk _ _ _ _ h).push (.refl X w) hm
theorem yac.frozen {α : Type} {Esc : α → Prop} {a : Addr} {k : Bool → Sem α} (hk : ∀ b, yac P Q X Esc (k b)) : yac P Q X Esc (Sem.frozen a k) := by
 intro L w v es h
 simp only [Sem.run, Sem.runT, h.frozen a]
 exact hk _ _ _ _ _ h
theorem Rel.shapeN {w v : World} (h : Rel X L w v) {r : Nat} (hX : ¬ X r) : v.shape? r = w.shape? r := by
 unfold World.shape?
 rw [h.same r hX]
 cases w.heap[r]? with
 |none => rfl
 |some o => cases o <;> rfl
theorem Rel.shape {w v : World} (h : Rel X L w v) (r : Nat) : v.shape? r = w.shape? r ∨ (X r ∧ ∃ t n, w.shape? r = some (t, n) ∧ v.shape? r = some (t, 0)) := by
 by_cases hX : X r
 ·obtain ⟨c, t, hw, hv⟩ := h.bare r hX
  exact .inr ⟨hX, t, c.size, by simp [World.shape?, hw], by simp [World.shape?, hv]⟩
 ·exact .inl (h.shapeN hX)
theorem yac.shape {α : Type} {Esc : α → Prop} {r : Nat} {k : Option (TypeId × Nat) → Sem α} (e : ∀ t n m, k (some (t, n)) = k (some (t, m))) (hk : ∀ x, yac P Q X Esc (k x)) : yac P Q X Esc (Sem.shape r k) := by
 intro L w v es h
 simp only [Sem.run, Sem.runT]
 rcases h.shape r with q | ⟨_, t, n, hw, hv⟩
 ·rw [q]; exact hk _ _ _ _ _ h
 ·rw [hw, hv, e t n 0]; exact hk _ _ _ _ _ h
theorem yac.sys {α : Type} {Esc : α → Prop} {c : Sys} {k : SysRet → Sem α} (hc : ∀ os, ∃ x, Kernel.perform c os = .done x) (hk : ∀ n, yac P Q X Esc (k n)) : yac P Q X Esc (Sem.sys c k) := by
 intro L w v es h
 obtain ⟨⟨r, o⟩, e⟩ := hc w.os
 have h1 : (v.sys c).1 = (w.sys c).1 ∧ Rel X L (w.sys c).2 (v.sys c).2 ∧ (w.sys c).2.heap = w.heap := by
  unfold World.sys
  rw [h.os, e]
  unfold World.ask
  cases r <;> first | exact ⟨rfl, h, rfl⟩ | exact ⟨rfl, ⟨h.size, h.same, h.bare, rfl, h.output, h.fut, h.cnt, h.tw, h.tv⟩, rfl⟩
 simp only [Sem.run, Sem.runT, h1.1]
 exact (hk _ _ _ _ _ h1.2.1).push (.of_heap h1.2.2) trivial
theorem yac.dead {α : Type} {Esc : α → Prop} {s : Sem α} (h : ∀ v, ∃ x v', s.run Q v = .halt x v' ∧ yhm x = true) : yac P Q X Esc s := by
 intro L w v es hR
 obtain ⟨x, v', e, hx⟩ := h v
 rw [e]
 exact .halt hx
theorem Rel.freeze {w v : World} (h : Rel X L w v) {a : Addr} (hb : ¬ X a.block) (n : Nat) : Rel X L (w.freeze a n) (v.freeze a n) := by
 unfold World.freeze
 split
 ·exact h
 refine ⟨by simp [h.size], fun c hc => ?_, fun c hc => ?_, h.os, h.output, h.fut, h.cnt, h.tw, h.tv⟩
 ·simp only [Array.getElem?_modify]
  split
  ·rw [h.same c hc]
   cases w.heap[c]? with
   |none => rfl
   |some o => cases o <;> rfl
  ·exact h.same c hc
 ·have : a.block ≠ c := fun e => hb (e ▸ hc)
  simpa only [Array.getElem?_modify, this, if_false] using h.bare c hc
end Go.Sim

namespace Go.Sim
variable {P Q : Program} {X : Nat → Prop}
theorem zeq {α β : Type} {Esc : β → Prop} {a : α} {f : α → Sem β} (h : yac P Q X Esc (f a)) : yac P Q X Esc (Pure.pure a >>= f) := h
theorem zdc {Esc : Value → Prop} (a : Addr) (m : Mode) : yac P Q X Esc (load a m) := yac.load fun _ => yac.pure _
theorem zfp {Esc : Unit → Prop} (a : Addr) (v : Value) (m : Mode) : yac P Q X Esc (store a v m) := yac.store (yac.pure _)
theorem zbd {Esc : Nat → Prop} (q : Question) : yac P Q X Esc (choose q) := yac.choose fun _ => yac.pure _
theorem zcp {Esc : Bool → Prop} (a : Addr) : yac P Q X Esc (frozen a) := yac.frozen fun _ => yac.pure _
theorem zep {α : Type} {Esc : α → Prop} {f : Program → Sem α} (e : f P = f Q) (h : yac P Q X Esc (f Q)) : yac P Q X Esc (program >>= f) := yac.program (k := f) e h
variable (hT : P.toTables = Q.toTables)
theorem yfk (hT : P.toTables = Q.toTables) (t : TypeId) : P.underlying t = Q.underlying t := by unfold Program.underlying; simp only [hT]
theorem zfz (hT : P.toTables = Q.toTables) {Esc : TypeInfo → Prop} (t : TypeId) : yac P Q X Esc (typeInfo t) := by
 refine zep ?_ ?_
 ·simp only [hT]
 ·split
  ·exact yac.pure _
  ·exact yac.halt _
theorem zgd (hT : P.toTables = Q.toTables) {Esc : TypeDesc → Prop} (t : TypeId) : yac P Q X Esc (underlying t) := by
 refine zep ?_ ?_
 ·simp only [yfk hT]
 ·split
  ·exact yac.pure _
  ·exact yac.halt _
theorem zgm (hT : P.toTables = Q.toTables) {Esc : Value → Prop} (t : TypeId) : yac P Q X Esc (zeroValue t) := by
 refine yac.bind (zfz hT t) fun i => ?_
 split
 ·exact yac.pure _
 ·exact yac.halt _
theorem zfi (hT : P.toTables = Q.toTables) {Esc : Nat → Prop} (t : TypeId) : yac P Q X Esc (sizeOf t) := yac.bind (zfz hT t) fun _ => yac.pure _
theorem zcy (hT : P.toTables = Q.toTables) {Esc : Bool → Prop} (t : TypeId) : yac P Q X Esc (isAgg t) := by
 refine yac.bind (zgd hT t) fun i => ?_
 split <;> exact yac.pure _
theorem zal {Esc : IntKind × Int → Prop} (v : Value) : yac P Q X Esc (asIntOf v) := by
 unfold asIntOf
 split <;> first | exact yac.pure _ | exact yac.halt _
theorem zak {Esc : Int → Prop} (v : Value) : yac P Q X Esc (asInt v) := yac.bind (zal v) fun _ => yac.pure _
theorem zaj {Esc : Bool → Prop} (v : Value) : yac P Q X Esc (asBool v) := by
 unfold asBool
 split <;> first | exact yac.pure _ | exact yac.halt _
theorem zai {Esc : Array Value → Prop} (v : Value) : yac P Q X Esc (asAgg v) := by
 unfold asAgg
 split <;> first | exact yac.pure _ | exact yac.halt _
theorem zeb {Esc : Nat → Prop} (o : Obj) (ho : o.odd = false) : yac P Q X Esc (newObj o) := yac.new ho fun _ => yac.pure _
theorem zec {Esc : Addr → Prop} (t : TypeId) (c : Array Value) : yac P Q X Esc (newRow t c) := yac.bind (zeb _ rfl) fun _ => yac.pure _
theorem zee {Esc : Addr → Prop} (t : TypeId) (v : Value) : yac P Q X Esc (newVar t v) := zec _ _
theorem zbp (hT : P.toTables = Q.toTables) {Esc : TypeId → Prop} (t : TypeId) : yac P Q X Esc (elemOf t) := by
 refine yac.bind (zgd hT t) fun i => ?_
 split <;> first | exact yac.pure _ | exact yac.halt _
theorem zdg {Esc : Array Value → Prop} (a : Addr) (n : Nat) : ∀ i acc, yac P Q X Esc (loadCellsFrom a i n acc) := by
 induction n with
 |zero => exact fun i acc => yac.pure _
 |succ n ih => exact fun i acc => yac.bind (zdc _ _) fun v => ih _ _
theorem zdf {Esc : Array Value → Prop} (a : Addr) (n : Nat) : yac P Q X Esc (loadCells a n) := zdg _ _ _ _
theorem zfr {Esc : Unit → Prop} (a : Addr) (l : List Value) : ∀ i, yac P Q X Esc (storeCells a l i) := by
 induction l with
 |nil => exact fun i => yac.pure _
 |cons v l ih => exact fun i => yac.bind (zfp _ _ _) fun _ => ih _
theorem zdh (hT : P.toTables = Q.toTables) {Esc : Value → Prop} (t : TypeId) (a : Addr) : yac P Q X Esc (loadVar t a) := by
 refine yac.bind (zcy hT t) fun b => ?_
 split
 ·exact yac.bind (zfi hT t) fun n => yac.bind (zdf _ _) fun _ => yac.pure _
 ·exact zdc _ _
theorem zfs (hT : P.toTables = Q.toTables) {Esc : Unit → Prop} (t : TypeId) (a : Addr) (v : Value) : yac P Q X Esc (storeVar t a v) := by
 refine yac.bind (zfi hT t) fun n => ?_
 split
 ·exact yac.bind (yac.halt _) fun _ => zfr _ _ _
 ·exact zfr _ _ _
theorem zem (hT : P.toTables = Q.toTables) {Esc : Value → Prop} (t : TypeId) (cs : Array Value) (off : Nat) : yac P Q X Esc (part t cs off) := by
 refine yac.bind (zcy hT t) fun b => ?_
 split
 ·exact yac.bind (zfi hT t) fun n => yac.pure _
 ·split <;> first | exact yac.pure _ | exact yac.halt _
theorem zga (hT : P.toTables = Q.toTables) {Esc : String → Prop} (t : TypeId) : yac P Q X Esc (typeStr t) := by
 refine yac.bind (zfz hT t) fun b => ?_
 dsimp only
 split <;> first | exact yac.pure _ | exact yac.halt _
theorem zez (hT : P.toTables = Q.toTables) {α : Type} {Esc : α → Prop} (e : RuntimeError) : yac P Q X Esc (runtimePanic e : Sem α) := by
 unfold runtimePanic
 refine zep ?_ ?_
 ·cases e <;> simp only [hT, typeHandle]
 ·cases e <;> dsimp only
  all_goals first
   |exact yac.halt _
   |exact yac.bind (zbp hT _) fun _ => yac.bind (zee _ _) fun _ => yac.halt _
theorem zaq (hT : P.toTables = Q.toTables) {α : Type} {Esc : α → Prop} (k : IntKind) (x y : Int) (c : BoundsCode) : yac P Q X Esc (boundsPanic k x y c : Sem α) := by
 unfold boundsPanic
 dsimp only
 split
 ·exact yac.bind (yac.bind (zbd _) fun _ => yac.pure _) fun _ => zez hT _
 ·exact yac.bind (yac.pure _) fun _ => zez hT _
theorem zah (hT : P.toTables = Q.toTables) {Esc : Addr → Prop} (v : Value) : yac P Q X Esc (asAddr v) := by
 unfold asAddr
 split
 ·exact yac.pure _
 ·exact zez hT _
 ·exact yac.halt _
end Go.Sim

namespace Go.Sim
variable {P Q : Program} {X : Nat → Prop}
variable (hT : P.toTables = Q.toTables)
theorem zfw {Esc : Addr → Prop} (v : Value) : yac P Q X Esc (Instr.sureAddr v) := by
 unfold Instr.sureAddr
 (repeat' first
  |exact yac.pure _
  |exact yac.halt _
  |with_reducible assumption
  |split
  |dsimp only)
theorem zff {α : Type} {Esc : α → Prop} {r : Nat} {f : Option (TypeId × Nat) → Sem α} (e : ∀ t n m, f (some (t, n)) = f (some (t, m))) (hk : ∀ x, yac P Q X Esc (f x)) : yac P Q X Esc (shape r >>= f) := yac.shape (k := f) e hk
theorem zcs {α : Type} {Esc : α → Prop} {r : Nat} {f : Obj → Sem α} (hd : ∀ o : Obj, o.odd = true → f o = f o.dull ∨ ∀ v, ∃ x v', (f o.dull).run Q v = .halt x v' ∧ yhm x = true) (hk : ∀ o, yac P Q X Esc (f o)) : yac P Q X Esc (getObj r >>= f) := yac.getObj (k := f) hd hk
theorem zej {Esc : Option (Addr × Bool) → Prop} (r : Nat) : yac P Q X Esc (numberAt r) := by
 unfold numberAt
 refine zff (fun _ _ _ => rfl) fun x => ?_
 split
 ·(repeat' first
  |exact yac.pure _
  |with_reducible assumption
  |((with_reducible refine zcs ?_ (fun _ => ?_)); · (intro o ho; cases o <;> first | (cases ho; done) | exact .inl rfl | exact .inr fun v => ⟨_, _, rfl, (by rfl)⟩))
  |split
  |dsimp only)
 ·(repeat' first
  |exact yac.pure _
  |with_reducible assumption
  |((with_reducible refine zcs ?_ (fun _ => ?_)); · (intro o ho; cases o <;> first | (cases ho; done) | exact .inl rfl | exact .inr fun v => ⟨_, _, rfl, (by rfl)⟩))
  |split
  |dsimp only)
theorem zgi {α : Type} {Esc : α → Prop} {r : Nat} {s k : Sem α} (hs : ∀ v, ∃ x v', s.run Q v = .halt x v' ∧ yhm x = true) (hk : yac P Q X Esc k) : yac P Q X Esc (viewAt r >>= fun x => if x.isSome then s else k) := by
 show yac P Q X Esc (Sem.shape r fun x => (if x.isSome then (return none : Sem (Option (Addr × TypeId))) else Sem.getObj r fun o => (match o with
   |.view a t => pure (some (a, t))
   |_ => pure none : Sem (Option (Addr × TypeId)))).bind fun x => if x.isSome then s else k)
 refine yac.shape (fun _ _ _ => rfl) fun x => ?_
 cases x with
 |some x => exact hk
 |none =>
  refine yac.getObj (k := fun o => ((match o with
   |.view a t => pure (some (a, t))
   |_ => pure none : Sem (Option (Addr × TypeId)))).bind fun x => if x.isSome then s else k) (fun o ho => ?_) fun o => ?_
  ·cases o <;> first | (cases ho; done) | exact .inl rfl | exact .inr hs
  ·cases o <;> first | exact hk | exact yac.dead hs
theorem zei {Esc : Unit → Prop} (a : Addr) : yac P Q X Esc (noView a) :=
 zgi (fun v => ⟨_, _, rfl, (by rfl)⟩) (yac.pure ())
theorem yfr (hT : P.toTables = Q.toTables) (t : TypeId) : P.cellsOf t = Q.cellsOf t := by unfold Program.cellsOf; simp only [hT]
theorem ykb (hT : P.toTables = Q.toTables) (t : TypeId) : P.bytesOf t = Q.bytesOf t := by unfold Program.bytesOf; simp only [hT]
theorem ydy (hT : P.toTables = Q.toTables) : P.depth = Q.depth := by unfold Program.depth; simp only [hT]
theorem yhz (hT : P.toTables = Q.toTables) (d : Nat) : ∀ t off, byteOfCell P d t off = byteOfCell Q d t off := by
 induction d with
 |zero => intro t off; rfl
 |succ d ih =>
  intro t off
  unfold byteOfCell
  simp only [yfk hT, yfr hT, ykb hT, ih]
theorem zav (hT : P.toTables = Q.toTables) {Esc : Nat → Prop} (a : Addr) : yac P Q X Esc (byteOf a) := by
 unfold byteOf
 split
 ·(repeat' first
  |exact yac.pure _
  |exact yac.halt _
  |with_reducible first | assumption | apply zei
  |refine yac.bind ?_ (fun _ => ?_)
  |split
  |dsimp only)
 ·refine zep ?_ ?_
  ·simp only [yfr hT, ykb hT, ydy hT, yhz hT]
  ·refine yac.bind (zei _) fun _ => ?_
   refine zff (fun _ _ _ => rfl) fun x => ?_
   (repeat' first
  |exact yac.pure _
  |exact yac.halt _
  |with_reducible first | assumption | apply zei
  |refine yac.bind ?_ (fun _ => ?_)
  |split
  |dsimp only)
theorem zen (hT : P.toTables = Q.toTables) {Esc : Addr → Prop} (a : Addr) (n m : Nat) : yac P Q X Esc (partAt a n m) := by
 unfold partAt
 (repeat' first
  |exact yac.pure _
  |with_reducible first | assumption | apply zav
  |refine yac.bind ?_ (fun _ => ?_)
  |split
  |dsimp only)
theorem zcb (hT : P.toTables = Q.toTables) {Esc : Addr → Prop} (a : Addr) (f : Field) : yac P Q X Esc (fieldPlace a f) := by
 unfold fieldPlace
 (repeat' first
  |exact yac.pure _
  |with_reducible first | assumption | apply zfi | apply zen
  |refine yac.bind ?_ (fun _ => ?_)
  |split
  |dsimp only)
theorem zdd (hT : P.toTables = Q.toTables) {Esc : Value → Prop} (t : TypeId) (v : Value) : yac P Q X Esc (Instr.loadAt t v) := by
 unfold Instr.loadAt
 (repeat' first
  |with_reducible first | assumption | apply zdh | apply zfw
  |refine yac.bind ?_ (fun _ => ?_)
  |split
  |dsimp only)
theorem zfq (hT : P.toTables = Q.toTables) {Esc : Unit → Prop} (t : TypeId) (v x : Value) : yac P Q X Esc (Instr.storeAt t v x) := by
 unfold Instr.storeAt
 (repeat' first
  |with_reducible first | assumption | apply zfs | apply zfw
  |refine yac.bind ?_ (fun _ => ?_)
  |split
  |dsimp only)
theorem zca (hT : P.toTables = Q.toTables) {Esc : Value → Prop} (t : TypeId) (v : Value) (f : Nat) : yac P Q X Esc (Instr.fieldAt t v f) := by
 unfold Instr.fieldAt
 (repeat' first
  |exact yac.pure _
  |exact yac.halt _
  |with_reducible first | assumption | apply zgd | apply zfw | apply zcb
  |refine yac.bind ?_ (fun _ => ?_)
  |split
  |dsimp only)
theorem zcu (hT : P.toTables = Q.toTables) {Esc : Value → Prop} (t : TypeId) (v x : Value) : yac P Q X Esc (Instr.indexAt t v x) := by
 unfold Instr.indexAt
 (repeat' first
  |exact yac.pure _
  |exact yac.halt _
  |with_reducible first | assumption | apply zgd | apply zfi | apply zal | apply zaq | apply zfw | refine zeq ?_
  |refine yac.bind ?_ (fun _ => ?_)
  |split
  |dsimp only)
theorem zfl (hT : P.toTables = Q.toTables) {Esc : Nat → Prop} (v : Value) (y : Nat) (c : BoundsCode) : yac P Q X Esc (Instr.sliceBound v y c) := by
 unfold Instr.sliceBound
 (repeat' first
  |exact yac.pure _
  |with_reducible first | assumption | apply zal | apply zaq
  |refine yac.bind ?_ (fun _ => ?_)
  |split
  |dsimp only)
theorem zfm (hT : P.toTables = Q.toTables) {Esc : Nat × Nat × Nat → Prop} (b : Bool) (l c : Nat) (lo hi mx : Option Value) : yac P Q X Esc (Instr.sliceBounds b l c lo hi mx) := by
 unfold Instr.sliceBounds
 (repeat' first
  |exact yac.pure _
  |exact yac.halt _
  |with_reducible first | assumption | apply zfl | refine zeq ?_
  |refine yac.bind ?_ (fun _ => ?_)
  |split
  |dsimp only)
theorem zfj (hT : P.toTables = Q.toTables) {Esc : Value → Prop} (t : TypeId) (x : Value) (lo hi mx : Option Value) : yac P Q X Esc (Instr.slice t x lo hi mx) := by
 unfold Instr.slice
 (repeat' first
  |exact yac.pure _
  |exact yac.halt _
  |with_reducible first | assumption | apply zgd | apply zfi | apply zah | apply zfm
  |refine yac.bind ?_ (fun _ => ?_)
  |split
  |dsimp only)
theorem zfk (hT : P.toTables = Q.toTables) {Esc : Value → Prop} (t : TypeId) (x : Value) (lo hi mx : Option Value) : yac P Q X Esc (Instr.sliceAt t x lo hi mx) := by
 unfold Instr.sliceAt
 (repeat' first
  |exact yac.pure _
  |with_reducible first | assumption | apply zgd | apply zfi | apply zfw | apply zfm | apply zfj
  |refine yac.bind ?_ (fun _ => ?_)
  |split
  |dsimp only)
theorem zad (hT : P.toTables = Q.toTables) {Esc : Value → Prop} (t : TypeId) (b : Bool) (x : Value) : yac P Q X Esc (Instr.alloc t b x) := by
 unfold Instr.alloc
 (repeat' first
  |exact yac.pure _
  |with_reducible first | assumption | apply zgm | apply zfs | apply zee
  |refine yac.bind ?_ (fun _ => ?_)
  |split
  |dsimp only)
theorem zar {Esc : Value → Prop} (t : TypeId) (x : Value) : yac P Q X Esc (Instr.box t x) := by
 unfold Instr.box
 (repeat' first
  |exact yac.pure _
  |with_reducible first | assumption | apply zee
  |refine yac.bind ?_ (fun _ => ?_)
  |split
  |dsimp only)
theorem zat (hT : P.toTables = Q.toTables) {Esc : Value → Prop} (t : TypeId) (n : Nat) (x : Array (Nat × Value)) : yac P Q X Esc (Instr.buildSlice t n x) := by
 unfold Instr.buildSlice
 (repeat' first
  |exact yac.pure _
  |exact yac.halt _
  |with_reducible first | assumption | apply zgd | apply zgm | apply zfi | apply zec | refine zeq ?_
  |refine yac.bind ?_ (fun _ => ?_)
  |split
  |dsimp only)
theorem zby {Esc : Value → Prop} (x : Value) (n : Nat) : yac P Q X Esc (Instr.extract x n) := by
 unfold Instr.extract
 (repeat' first
  |exact yac.pure _
  |exact yac.halt _
  |with_reducible assumption
  |split
  |dsimp only)
theorem zbz (hT : P.toTables = Q.toTables) {Esc : Value → Prop} (t : TypeId) (x : Value) (n : Nat) : yac P Q X Esc (Instr.field t x n) := by
 unfold Instr.field
 (repeat' first
  |exact yac.halt _
  |with_reducible first | assumption | apply zgd | apply zai | apply zem
  |refine yac.bind ?_ (fun _ => ?_)
  |split
  |dsimp only)
theorem zct (hT : P.toTables = Q.toTables) {Esc : Value → Prop} (t : TypeId) (x y : Value) : yac P Q X Esc (Instr.index t x y) := by
 unfold Instr.index
 (repeat' first
  |exact yac.pure _
  |exact yac.halt _
  |with_reducible first | assumption | apply zgd | apply zfi | apply zal | apply zem | apply zaq
  |refine yac.bind ?_ (fun _ => ?_)
  |split
  |dsimp only)
theorem zdj {Esc : Value → Prop} (f : Fn) (x y : Array Value) : yac P Q X Esc (Instr.makeFunc f x y) := yac.pure _
theorem zdk (hT : P.toTables = Q.toTables) {Esc : Value → Prop} (t : TypeId) (x : Value) : yac P Q X Esc (Instr.makeInterface t x) := by
 unfold Instr.makeInterface
 (repeat' first
  |exact yac.pure _
  |exact yac.halt _
  |with_reducible first | assumption | apply zgd
  |refine yac.bind ?_ (fun _ => ?_)
  |split
  |dsimp only)
theorem zan {Esc : Unit → Prop} (n : Nat) : yac P Q X Esc (askRoom n) := by
 unfold askRoom
 split
 ·exact yac.mark rfl (yac.pure _)
 ·exact yac.pure _
theorem zdm (hT : P.toTables = Q.toTables) {Esc : Value → Prop} (t : TypeId) (x y : Value) : yac P Q X Esc (Instr.makeSlice t x y) := by
 unfold Instr.makeSlice
 (repeat' first
  |exact yac.pure _
  |exact yac.halt _
  |with_reducible first | assumption | apply zfz | apply zgd | apply zgm | apply zfi | apply zak | apply zez | apply zec | apply zbd | apply zan | refine zeq ?_
  |refine yac.bind ?_ (fun _ => ?_)
  |split
  |dsimp only)
theorem zea {Esc : Nat → Prop} (es : Array MapEntry) (c : Nat) : yac P Q X Esc (newObj (.map es c)) := zeb _ rfl
theorem zdl (hT : P.toTables = Q.toTables) {Esc : Value → Prop} (t : TypeId) (r : Option Value) : yac P Q X Esc (Instr.makeMap t r) := by
 unfold Instr.makeMap
 (repeat' first
  |exact yac.pure _
  |exact yac.halt _
  |with_reducible first | assumption | apply zgd | apply zak | apply zea
  |refine yac.bind ?_ (fun _ => ?_)
  |split
  |dsimp only)
theorem zfy (hT : P.toTables = Q.toTables) {Esc : Value → Prop} (x : Value) (t u : TypeId) (b : Bool) : yac P Q X Esc (Instr.typeAssert x t u b) := by
 unfold Instr.typeAssert
 (repeat' first
  |exact yac.pure _
  |exact yac.halt _
  |with_reducible first | assumption | apply zfz | apply zgd | apply zgm | apply zez
  |refine yac.bind ?_ (fun _ => ?_)
  |split
  |dsimp only)
end Go.Sim

namespace Go.Sim
variable {P Q : Program} {X : Nat → Prop}
variable (hT : P.toTables = Q.toTables)
theorem zcn {α β : Type} {Esc : β → Prop} {f : α → β → Sem (ForInStep β)} (hf : ∀ a b, Sim P Q X (f a b)) (l : List α) : ∀ i, yac P Q X Esc (forIn l i f) := by
 induction l with
 |nil => intro i; rw [List.forIn_nil]; exact yac.pure _
 |cons a l ih =>
  intro i
  rw [List.forIn_cons]
  refine yac.bind (hf a i) fun x => ?_
  cases x with
  |done b => exact yac.pure _
  |yield b => exact ih b
theorem zcm {α β : Type} {Esc : β → Prop} {f : α → β → Sem (ForInStep β)} (hf : ∀ a b, Sim P Q X (f a b)) {l : Array α} (i : β) : yac P Q X Esc (forIn l i f) := by
 rw [← Array.forIn_toList]; exact zcn hf _ _
theorem zco {β : Type} {Esc : β → Prop} {f : Nat → β → Sem (ForInStep β)} (hf : ∀ a b, Sim P Q X (f a b)) {r : Std.Legacy.Range} (i : β) : yac P Q X Esc (forIn r i f) := by
 rw [Std.Legacy.Range.forIn_eq_forIn_range']; exact zcn hf _ _
theorem zdp {α β : Type} {Esc : List β → Prop} {f : α → Sem β} (hf : ∀ a, Sim P Q X (f a)) (l : List α) : yac P Q X Esc (l.mapM f) := by
 have h : ∀ (l : List α) (acc : List β), yac P Q X Esc (List.mapM.loop f l acc) := by
  intro l
  induction l with
  |nil => intro acc; exact yac.pure _
  |cons a l ih => intro acc; exact yac.bind (hf a) fun b => ih _
 exact h l []
theorem yac.of {α : Type} {Esc : α → Prop} {s : Sem α} (h : Sim P Q X s) : yac P Q X Esc s := by
 intro L w u es hR hL
 have := h L w u es hR hL
 revert this
 generalize s.run Q u = r
 cases r with
 |ok a v' => exact fun q => .inr (q.resolve_left id)
 |halt y v' => exact fun q => q
theorem zbc (hT : P.toTables = Q.toTables) {Esc : Unit → Prop} (b : Bool) (n : Nat) : ∀ t v, yac P Q X Esc (Instr.checkKey b n t v) := by
 have h : ∀ t v, Sim P Q X (Instr.checkKey b n t v) := by
  induction n with
  |zero => exact fun t v => yac.halt _
  |succ n ih =>
   intro t v
   unfold Instr.checkKey
   refine yac.bind (zgd hT _) (fun _ => ?_)
   split
   ·dsimp only
    refine yac.bind (zfz hT _) (fun _ => ?_)
    split
    ·split
     ·exact yac.bind (zez hT _) fun _ => yac.bind (zga hT _) fun _ => yac.bind (zez hT _) fun _ => ih _ _
     ·exact yac.bind (zga hT _) fun _ => yac.bind (zez hT _) fun _ => ih _ _
    ·exact ih _ _
   ·refine yac.bind (zco (fun _ _ => ?_) _) fun _ => yac.pure _
    exact yac.bind (zfi hT _) fun _ => yac.bind (zem hT _ _ _) fun _ => yac.bind (ih _ _) fun _ => yac.pure _
   ·refine yac.bind (zcm (fun _ _ => ?_) _) fun _ => yac.pure _
    split
    ·exact yac.bind (zem hT _ _ _) fun _ => yac.bind (ih _ _) fun _ => yac.pure _
    ·exact yac.pure _
   all_goals first | exact yac.pure _ | exact yac.halt _
 exact fun t v => yac.of (h t v)
theorem zao {Esc : Addr × Bool → Prop} (a : Addr) : yac P Q X Esc (behindNumber a) := by
 unfold behindNumber
 (repeat' first
  |exact yac.pure _
  |with_reducible first | assumption | apply zej
  |refine yac.bind ?_ (fun _ => ?_)
  |split
  |dsimp only)
def yrh (w : World) (a : Addr) : Bool := if w.frozen? a then true else match w.shape? a.block with | some (_, n) => w.frozen? { block := a.block, off := n } | none => false
theorem yhi (P : Program) (a : Addr) (w : World) (es : Array Event) : (stringish a).runT P w es = (.ok (yrh w a) w, es) := by
 show Sem.runT P (Sem.frozen a fun b => _) w es = _
 simp only [Sem.runT, yrh]
 cases w.frozen? a
 ·show Sem.runT P (Sem.shape a.block fun x => _) w es = _
  simp only [Sem.runT]
  cases w.shape? a.block with
  |none => rfl
  |some x => rfl
 ·rfl
theorem yin (P : Program) (a : Addr) (w : World) : (stringish a).run P w = .ok (yrh w a) w := by
 show Sem.run P (Sem.frozen a fun b => _) w = _
 simp only [Sem.run, yrh]
 cases w.frozen? a
 ·show Sem.run P (Sem.shape a.block fun x => _) w = _
  simp only [Sem.run]
  cases w.shape? a.block with
  |none => rfl
  |some x => rfl
 ·rfl
theorem Rel.str {L : Lim} {w v : World} (h : Rel X L w v) (a : Addr) : yrh v a = yrh w a := by
 by_cases hX : X a.block
 ·obtain ⟨c, t, hw, hv⟩ := h.bare _ hX
  simp [yrh, World.frozen?, World.shape?, hw, hv]
 ·have e : v.shape? a.block = w.shape? a.block := h.shapeN hX
  unfold yrh
  rw [h.frozen, e]
  cases w.shape? a.block with
  |none => rfl
  |some x => simp only [h.frozen]
theorem Rel.strX {L : Lim} {w v : World} (h : Rel X L w v) {a : Addr} (hX : X a.block) : yrh w a = false := by
 obtain ⟨c, t, hw, hv⟩ := h.bare _ hX
 simp [yrh, World.frozen?, World.shape?, hw]
def oneV (w : World) (a b : Addr) : Bool := (yrh w a && yrh w b) || (yrh w a && ((w.shape? a.block) matches some (_, 0))) || (yrh w b && ((w.shape? b.block) matches some (_, 0)))
theorem yqv (P : Program) (a b : Addr) (w : World) : (mayBeOne a b).run P w = .ok (oneV w a b) w := by
 show Sem.run P ((stringish a).bind fun sa => (stringish b).bind fun sb => _) w = _
 rw [run_bind, yin]
 dsimp only
 rw [run_bind, yin]
 rfl
theorem yos (P : Program) (a b : Addr) (w : World) (es : Array Event) : (mayBeOne a b).runT P w es = (.ok (oneV w a b) w, es) := by
 show Sem.runT P ((stringish a).bind fun sa => (stringish b).bind fun sb => _) w es = _
 rw [yil, yhi]
 dsimp only
 rw [yil, yhi]
 rfl
theorem zdt {Esc : Bool → Prop} (a b : Addr) : yac P Q X Esc (mayBeOne a b) := by
 intro L w v es h
 rw [yqv, yos]
 have e : oneV v a b = oneV w a b := by
  unfold oneV
  rw [h.str, h.str]
  have k : ∀ c : Addr, (yrh w c && ((v.shape? c.block) matches some (_, 0))) = (yrh w c && ((w.shape? c.block) matches some (_, 0))) := by
   intro c
   by_cases hX : X c.block
   ·rw [h.strX hX]; rfl
   ·have : v.shape? c.block = w.shape? c.block := h.shapeN hX
    rw [this]
  rw [k a, k b]
 exact fun _ => .inr ⟨w, #[], by rw [e]; simp, h, .refl X w, by simp⟩
theorem zfa {Esc : Bool → Prop} (a b : Addr) : yac P Q X Esc (sameAddr a b) := by
 unfold sameAddr
 (repeat' first
  |exact yac.pure _
  |exact yac.halt _
  |with_reducible first | assumption | apply zbd | apply zei | apply zcp | apply zdt
  |refine yac.bind ?_ (fun _ => ?_)
  |split
  |dsimp only)
theorem zfb {Esc : Bool → Prop} (a b : Option Addr) : yac P Q X Esc (samePointer a b) := by
 unfold samePointer
 (repeat' first
  |exact yac.pure _
  |with_reducible first | assumption | apply zfa
  |split
  |dsimp only)
theorem uid_eq (hT : P.toTables = Q.toTables) (t : TypeId) : P.underlyingId t = Q.underlyingId t := by unfold Program.underlyingId; rw [hT]
theorem ynr (hT : P.toTables = Q.toTables) (n : Nat) : ∀ t u, P.alikeButTags n t u = Q.alikeButTags n t u := by
 induction n with
 |zero => intro t u; rfl
 |succ n ih =>
  intro t u
  unfold Program.alikeButTags
  simp only [hT, ih]
theorem own_eq (hT : P.toTables = Q.toTables) (c : String × TypeId) : P.ownRow c = Q.ownRow c := by unfold Program.ownRow; simp only [hT, yfk hT]
theorem packed_eq (hT : P.toTables = Q.toTables) (t : TypeId) : P.packed t = Q.packed t := by
 unfold Program.packed Program.packedAs
 simp only [hT, own_eq hT, yfk hT, ynr hT, uid_eq hT, ydy hT]
theorem hp_eq (hT : P.toTables = Q.toTables) (d : Nat) : ∀ t, P.holdsPacked d t = Q.holdsPacked d t := by
 induction d with
 |zero => intro t; rfl
 |succ d ih =>
  intro t
  unfold Program.holdsPacked
  simp only [packed_eq hT, yfk hT, ih]
theorem sh_eq (hT : P.toTables = Q.toTables) (t : TypeId) : P.stoodInHeld t = Q.stoodInHeld t := by
 unfold Program.stoodInHeld Program.stoodInAs
 simp only [hT, yfk hT, ynr hT, uid_eq hT, ydy hT]
theorem eg_eq (hT : P.toTables = Q.toTables) (d : Nat) : ∀ t, P.eqGuardType d t = Q.eqGuardType d t := by
 induction d with
 |zero => intro t; rfl
 |succ d ih =>
  intro t
  unfold Program.eqGuardType
  simp only [yfk hT, ih]
theorem zbv (hT : P.toTables = Q.toTables) (n : Nat) : ∀ t x y, Sim P Q X (Op.equalIn n t x y) := by
 induction n with
 |zero => exact fun t x y => yac.halt _
 |succ n ih =>
  intro t x y
  unfold Op.equalIn
  refine yac.bind (zgd hT _) (fun _ => ?_)
  split
  case h_5 =>
   refine yac.bind (zao _) fun _ => yac.bind (zao _) fun _ => ?_
   dsimp only
   split
   ·refine zep (by simp only [hT]) ?_
    (repeat' first
  |exact yac.pure _
  |exact yac.halt _
  |with_reducible first | assumption | apply ih | apply zfz | apply zgd | apply zfi | apply zez | apply zem | apply zga | apply zbd | apply zav | apply zao | apply zfa | apply zfb
  |refine yac.bind ?_ (fun _ => ?_)
  |refine zcm (fun _ _ => ?_) _
  |refine zco (fun _ _ => ?_) _
  |split
  |dsimp only)
   ·refine zep (by simp only [hT]) ?_
    (repeat' first
  |exact yac.pure _
  |exact yac.halt _
  |with_reducible first | assumption | apply ih | apply zfz | apply zgd | apply zfi | apply zez | apply zem | apply zga | apply zbd | apply zav | apply zao | apply zfa | apply zfb
  |refine yac.bind ?_ (fun _ => ?_)
  |refine zcm (fun _ _ => ?_) _
  |refine zco (fun _ _ => ?_) _
  |split
  |dsimp only)
  case h_19 =>
   split
   ·exact yac.pure _
   ·refine yac.bind (zfz hT _) fun _ => ?_
    dsimp only
    split
    ·refine zep (by simp only [hp_eq hT]) ?_
     refine zep (by simp only [ydy hT]) ?_
     (repeat' first
  |exact yac.pure _
  |exact yac.halt _
  |with_reducible first | assumption | apply ih | apply zfz | apply zgd | apply zfi | apply zez | apply zem | apply zga | apply zbd | apply zav | apply zao | apply zfa | apply zfb
  |refine yac.bind ?_ (fun _ => ?_)
  |refine zcm (fun _ _ => ?_) _
  |refine zco (fun _ _ => ?_) _
  |split
  |dsimp only)
    ·exact ih _ _ _
  case h_20 =>
   refine zep (by simp only [sh_eq hT]) ?_
   (repeat' first
  |exact yac.pure _
  |exact yac.halt _
  |with_reducible first | assumption | apply ih | apply zfz | apply zgd | apply zfi | apply zez | apply zem | apply zga | apply zbd | apply zav | apply zao | apply zfa | apply zfb
  |refine yac.bind ?_ (fun _ => ?_)
  |refine zcm (fun _ _ => ?_) _
  |refine zco (fun _ _ => ?_) _
  |split
  |dsimp only)
  all_goals (repeat' first
  |exact yac.pure _
  |exact yac.halt _
  |with_reducible first | assumption | apply ih | apply zfz | apply zgd | apply zfi | apply zez | apply zem | apply zga | apply zbd | apply zav | apply zao | apply zfa | apply zfb
  |refine yac.bind ?_ (fun _ => ?_)
  |refine zcm (fun _ _ => ?_) _
  |refine zco (fun _ _ => ?_) _
  |split
  |dsimp only)
end Go.Sim

namespace Go.Sim
variable {P Q : Program} {X : Nat → Prop}
variable (hT : P.toTables = Q.toTables)
theorem zbu (hT : P.toTables = Q.toTables) {Esc : Bool → Prop} (t : TypeId) (x y : Value) : yac P Q X Esc (Op.equal t x y) := (zbv hT _ _ _ _).of
theorem zbt (hT : P.toTables = Q.toTables) (n : Nat) : ∀ t x y, Sim P Q X (Op.eqGuardIn n t x y) := by
 induction n with
 |zero => exact fun t x y => yac.halt _
 |succ n ih =>
  intro t x y
  unfold Op.eqGuardIn
  (repeat' first
  |exact yac.pure _
  |exact yac.halt _
  |with_reducible first | assumption | apply ih | apply zgd | apply zfi | apply zem
  |refine yac.bind ?_ (fun _ => ?_)
  |refine zcm (fun _ _ => ?_) _
  |refine zco (fun _ _ => ?_) _
  |split
  |dsimp only)
theorem zbs (hT : P.toTables = Q.toTables) {Esc : Unit → Prop} (op : BinOp) (t : TypeId) (x y : Operand) (a b : Value) : yac P Q X Esc (eqGuard op t x y a b) := by
 unfold eqGuard
 split <;> simp only [Bool.not_true, Bool.not_false, Bool.false_eq_true, if_false, if_true]
 case h_3 => exact yac.pure _
 all_goals
  split
  ·(repeat' first
  |exact yac.pure _
  |exact yac.halt _
  |with_reducible first | assumption | apply zbt
  |refine yac.bind ?_ (fun _ => ?_)
  |split
  |dsimp only)
  ·refine zep (by simp only [eg_eq hT]) ?_
   refine zep (by simp only [ydy hT]) ?_
   (repeat' first
  |exact yac.pure _
  |exact yac.halt _
  |with_reducible first | assumption | apply zbt
  |refine yac.bind ?_ (fun _ => ?_)
  |split
  |dsimp only)
  ·exact yac.pure _
theorem zcc (hT : P.toTables = Q.toTables) (t : TypeId) (k : Value) (l : List MapEntry) : ∀ i, Sim P Q X (Instr.findAsking t k l i) := by
 induction l with
 |nil => exact fun i => yac.pure _
 |cons e l ih =>
  intro i
  unfold Instr.findAsking
  (repeat' first
  |exact yac.pure _
  |with_reducible first | assumption | apply ih | apply zbu
  |refine yac.bind ?_ (fun _ => ?_)
  |split
  |dsimp only)
theorem zcd (hT : P.toTables = Q.toTables) (t : TypeId) (k : Value) (l : List MapEntry) : Sim P Q X (Instr.findKey t k l) := by
 unfold Instr.findKey
 (repeat' first
  |exact yac.pure _
  |with_reducible first | assumption | apply zgd | apply zcc
  |refine yac.bind ?_ (fun _ => ?_)
  |split
  |dsimp only)
theorem zdi (hT : P.toTables = Q.toTables) {Esc : Value → Prop} (t : TypeId) (x y : Value) (b : Bool) : yac P Q X Esc (Instr.lookup t x y b) := by
 unfold Instr.lookup
 (repeat' first
  |exact yac.pure _
  |exact yac.halt _
  |with_reducible first | assumption | apply zgd | apply zgm | apply zbc | apply zcd | refine zeq ?_
  |((with_reducible refine zcs ?_ (fun _ => ?_)); · (intro o ho; cases o <;> first | (cases ho; done) | exact .inl rfl | exact .inr fun v => ⟨_, _, rfl, (by rfl)⟩))
  |refine yac.bind ?_ (fun _ => ?_)
  |split
  |dsimp only)
theorem zcz {Esc : Value → Prop} (x y : Value) : yac P Q X Esc (Instr.keyThatStays x y) := by
 unfold Instr.keyThatStays
 (repeat' first
  |exact yac.pure _
  |with_reducible first | assumption | apply zbd
  |refine yac.bind ?_ (fun _ => ?_)
  |split
  |dsimp only)
theorem zfd {Esc : Unit → Prop} (r : Nat) (es : Array MapEntry) (c : Nat) : yac P Q X Esc (setObj r (.map es c)) := yac.setObj rfl (yac.pure _)
theorem zdq (hT : P.toTables = Q.toTables) {Esc : Unit → Prop} (t : TypeId) (m k x : Value) : yac P Q X Esc (Instr.mapUpdate t m k x) := by
 unfold Instr.mapUpdate
 (repeat' first
  |exact yac.halt _
  |with_reducible first | assumption | apply zgd | apply zez | apply zbc | apply zcd | apply zcz | apply zfd
  |((with_reducible refine zcs ?_ (fun _ => ?_)); · (intro o ho; cases o <;> first | (cases ho; done) | exact .inl rfl | exact .inr fun v => ⟨_, _, rfl, (by rfl)⟩))
  |refine yac.bind ?_ (fun _ => ?_)
  |split
  |dsimp only)
theorem zdn (hT : P.toTables = Q.toTables) {Esc : Value → Prop} (t : TypeId) (m k : Value) : yac P Q X Esc (Instr.mapEntry t m k) := by
 unfold Instr.mapEntry
 (repeat' first
  |exact yac.pure _
  |exact yac.halt _
  |with_reducible first | assumption | apply zgd | apply zgm | apply zez | apply zbc | apply zcd | apply zcz | apply zfd
  |((with_reducible refine zcs ?_ (fun _ => ?_)); · (intro o ho; cases o <;> first | (cases ho; done) | exact .inl rfl | exact .inr fun v => ⟨_, _, rfl, (by rfl)⟩))
  |refine yac.bind ?_ (fun _ => ?_)
  |split
  |dsimp only)
theorem zbr {Esc : Unit → Prop} (t : TypeId) (m k x : Value) : yac P Q X Esc (Instr.entryStore t m k x) := by
 unfold Instr.entryStore
 (repeat' first
  |exact yac.halt _
  |with_reducible first | assumption | apply zak | apply zfd
  |((with_reducible refine zcs ?_ (fun _ => ?_)); · (intro o ho; cases o <;> first | (cases ho; done) | exact .inl rfl | exact .inr fun v => ⟨_, _, rfl, (by rfl)⟩))
  |refine yac.bind ?_ (fun _ => ?_)
  |split
  |dsimp only)
theorem zdz {Esc : Nat → Prop} (a b c d) : yac P Q X Esc (newObj (.mapIter a b c d)) := zeb _ rfl
theorem zed {Esc : Nat → Prop} (a b) : yac P Q X Esc (newObj (.stringIter a b)) := zeb _ rfl
theorem zfc {Esc : Unit → Prop} (r : Nat) (a b c d) : yac P Q X Esc (setObj r (.mapIter a b c d)) := yac.setObj rfl (yac.pure _)
theorem zfe {Esc : Unit → Prop} (r : Nat) (a b) : yac P Q X Esc (setObj r (.stringIter a b)) := yac.setObj rfl (yac.pure _)
theorem zef (hT : P.toTables = Q.toTables) {Esc : Value → Prop} (x : Value) (b : Bool) (t : TypeId) : yac P Q X Esc (Instr.next x b t) := by
 unfold Instr.next
 (repeat' first
  |exact yac.pure _
  |exact yac.halt _
  |with_reducible first | assumption | apply zbd | apply zfc | apply zfe
  |((with_reducible refine zcs ?_ (fun _ => ?_)); · (intro o ho; cases o <;> first | (cases ho; done) | exact .inl rfl | exact .inr fun v => ⟨_, _, rfl, (by rfl)⟩))
  |refine yac.bind ?_ (fun _ => ?_)
  |split
  |dsimp only)
theorem zbq {Esc : Value → Prop} (x : Value) : yac P Q X Esc (Instr.entry x) := by
 unfold Instr.entry
 (repeat' first
  |exact yac.pure _
  |exact yac.halt _
  |with_reducible assumption
  |((with_reducible refine zcs ?_ (fun _ => ?_)); · (intro o ho; cases o <;> first | (cases ho; done) | exact .inl rfl | exact .inr fun v => ⟨_, _, rfl, (by rfl)⟩))
  |split
  |dsimp only)
theorem zet (hT : P.toTables = Q.toTables) {Esc : Value → Prop} (t : TypeId) (x : Value) : yac P Q X Esc (Instr.range t x) := by
 unfold Instr.range
 (repeat' first
  |exact yac.pure _
  |exact yac.halt _
  |with_reducible first | assumption | apply zgd | apply zdz | apply zed | refine zeq ?_
  |((with_reducible refine zcs ?_ (fun _ => ?_)); · (intro o ho; cases o <;> first | (cases ho; done) | exact .inl rfl | exact .inr fun v => ⟨_, _, rfl, (by rfl)⟩))
  |refine yac.bind ?_ (fun _ => ?_)
  |split
  |dsimp only)
theorem zcv {Esc : Value → Prop} (op : BinOp) (x y : Int) : yac P Q X Esc (Op.intCmp op x y) := by
 unfold Op.intCmp
 (repeat' first
  |exact yac.pure _
  |exact yac.halt _
  |with_reducible assumption
  |split
  |dsimp only)
theorem zcw (hT : P.toTables = Q.toTables) {Esc : Value → Prop} (op : BinOp) (k : IntKind) (x y : Int) : yac P Q X Esc (Op.intDiv op k x y) := by
 unfold Op.intDiv
 (repeat' first
  |exact yac.pure _
  |exact yac.halt _
  |with_reducible first | assumption | apply zez
  |split
  |dsimp only)
theorem zfh (hT : P.toTables = Q.toTables) {Esc : Value → Prop} (op : BinOp) (k : IntKind) (x : Int) (l : IntKind) (y : Int) : yac P Q X Esc (Op.shift op k x l y) := by
 unfold Op.shift
 (repeat' first
  |exact yac.pure _
  |exact yac.halt _
  |with_reducible first | assumption | apply zez
  |split
  |dsimp only)
theorem zft {Esc : Value → Prop} (op : BinOp) (x y : ByteArray) : yac P Q X Esc (Op.stringOp op x y) := by
 unfold Op.stringOp
 (repeat' first
  |exact yac.pure _
  |exact yac.halt _
  |with_reducible assumption
  |split
  |dsimp only)
theorem zcf {Esc : Value → Prop} (op : BinOp) (k : FloatKind) (x y : Nat) : yac P Q X Esc (Op.floatArith op k x y) := by
 unfold Op.floatArith
 (repeat' first
  |exact yac.pure _
  |exact yac.halt _
  |with_reducible first | assumption | apply zbd | refine zeq ?_
  |refine yac.bind ?_ (fun _ => ?_)
  |split
  |dsimp only)
theorem zcg {Esc : Value → Prop} (op : BinOp) (k : FloatKind) (x y : Nat) : yac P Q X Esc (Op.floatCmp op k x y) := by
 unfold Op.floatCmp
 (repeat' first
  |exact yac.pure _
  |exact yac.halt _
  |with_reducible assumption
  |split
  |dsimp only)
theorem zgb {Esc : Value → Prop} (op : UnOp) (x : Value) : yac P Q X Esc (Op.unary op x) := by
 unfold Op.unary
 (repeat' first
  |exact yac.pure _
  |exact yac.halt _
  |with_reducible assumption
  |split
  |dsimp only)
theorem zch {Esc : Value → Prop} (k : FloatKind) (b : Nat) (l : FloatKind) : yac P Q X Esc (Conv.floatToFloat k b l) := by
 unfold Conv.floatToFloat
 (repeat' first
  |exact yac.pure _
  |with_reducible first | assumption | apply zbd
  |refine yac.bind ?_ (fun _ => ?_)
  |split
  |dsimp only)
theorem zaf {Esc : Nat → Prop} (op : BinOp) (k : FloatKind) (x y : Nat) : yac P Q X Esc (Op.Complex.arith op k x y) := by
 unfold Op.Complex.arith
 (repeat' first
  |exact yac.pure _
  |exact yac.halt _
  |with_reducible first | assumption | apply zcf
  |refine yac.bind ?_ (fun _ => ?_)
  |split
  |dsimp only)
theorem zbi {Esc : Nat → Prop} (k : FloatKind) (x : Nat) (l : FloatKind) : yac P Q X Esc (Op.Complex.conv k x l) := by
 unfold Op.Complex.conv
 (repeat' first
  |exact yac.pure _
  |exact yac.halt _
  |with_reducible first | assumption | apply zch
  |refine yac.bind ?_ (fun _ => ?_)
  |split
  |dsimp only)
theorem zax {Esc : Nat → Prop} (x y : Nat) : yac P Q X Esc (Op.Complex.add x y) := zaf _ _ _ _
theorem zbn {Esc : Nat → Prop} (x y : Nat) : yac P Q X Esc (Op.Complex.sub x y) := zaf _ _ _ _
theorem zbf {Esc : Nat → Prop} (x y : Nat) : yac P Q X Esc (Op.Complex.mul x y) := zaf _ _ _ _
theorem zbm {Esc : Nat → Prop} (x y : Nat) : yac P Q X Esc (Op.Complex.quo x y) := zaf _ _ _ _
end Go.Sim

namespace Go.Sim
variable {P Q : Program} {X : Nat → Prop}
variable (hT : P.toTables = Q.toTables)
theorem zdb {Esc : Nat → Prop} (v : Value) : yac P Q X Esc (Builtin.lenOf v) := by
 unfold Builtin.lenOf
 (repeat' first
  |exact yac.pure _
  |exact yac.halt _
  |with_reducible assumption
  |split
  |dsimp only)
theorem zce {Esc : Array Value → Prop} (a b : Nat) (v : Value) : yac P Q X Esc (Builtin.firstCells a b v) := by
 unfold Builtin.firstCells
 (repeat' first
  |exact yac.pure _
  |exact yac.halt _
  |with_reducible first | assumption | apply zdf
  |split
  |dsimp only)
def ykn (Q : Program) {α : Type} (s : Sem α) : Prop := ∀ v, ∃ b, s.run Q v = .ok b v
theorem ykn.pure {α : Type} (a : α) : ykn Q (Pure.pure a : Sem α) := fun v => ⟨a, rfl⟩
theorem ykn.bind {α β : Type} {s : Sem α} {f : α → Sem β} (h : ykn Q s) (hf : ∀ a, ykn Q (f a)) : ykn Q (s >>= f) := by
 intro v
 obtain ⟨b, hb⟩ := h v
 obtain ⟨c, hc⟩ := hf b v
 exact ⟨c, by show Sem.run Q (s.bind f) v = _; rw [run_bind, hb]; exact hc⟩
theorem ysw (a : Addr) (n : Nat) : ykn Q (Builtin.holdsCells a n) := by
 intro v
 show ∃ b, Sem.run Q (Sem.shape a.block fun x => _) v = _
 simp only [Sem.run]
 cases v.shape? a.block <;> exact ⟨_, rfl⟩
theorem yqm (a : Addr) : ykn Q (frozen a) := fun v => ⟨_, rfl⟩
theorem ysx (s l n : Nat) (a : Option Addr) (x : Value) : ykn Q (Builtin.mayShare s l n a x) := by
 unfold Builtin.mayShare
 repeat' first
  |exact ykn.pure _
  |exact ysw _ _
  |exact yqm _
  |refine ykn.bind ?_ (fun _ => ?_)
  |split
  |dsimp only
theorem zfg {β : Type} {Esc : β → Prop} {s l n : Nat} {a : Option Addr} {x : Value} {f : Bool → Sem β} (h : ∀ b v, ∃ x v', (f b).run Q v = .halt x v' ∧ yhm x = true) : yac P Q X Esc (Builtin.mayShare s l n a x >>= f) := by
 refine yac.dead fun v => ?_
 obtain ⟨b, hb⟩ := ysx (Q := Q) s l n a x v
 obtain ⟨z, v', e, hz⟩ := h b v
 exact ⟨z, v', by show Sem.run Q ((Builtin.mayShare s l n a x).bind f) v = _; rw [run_bind, hb]; exact e, hz⟩
theorem zda (hT : P.toTables = Q.toTables) {Esc : Value → Prop} (ts : Array TypeId) (t : TypeId) (x : Array Value) : yac P Q X Esc (Builtin.len_ ts t x) := by
 unfold Builtin.len_
 (repeat' first
  |exact yac.pure _
  |exact yac.halt _
  |with_reducible first | assumption | apply zgd
  |((with_reducible refine zcs ?_ (fun _ => ?_)); · (intro o ho; cases o <;> first | (cases ho; done) | exact .inl rfl | exact .inr fun v => ⟨_, _, rfl, (by rfl)⟩))
  |refine yac.bind ?_ (fun _ => ?_)
  |split
  |dsimp only)
theorem zbb (hT : P.toTables = Q.toTables) {Esc : Value → Prop} (ts : Array TypeId) (t : TypeId) (x : Array Value) : yac P Q X Esc (Builtin.cap_ ts t x) := by
 unfold Builtin.cap_
 (repeat' first
  |exact yac.pure _
  |exact yac.halt _
  |with_reducible first | assumption | apply zgd
  |((with_reducible refine zcs ?_ (fun _ => ?_)); · (intro o ho; cases o <;> first | (cases ho; done) | exact .inl rfl | exact .inr fun v => ⟨_, _, rfl, (by rfl)⟩))
  |refine yac.bind ?_ (fun _ => ?_)
  |split
  |dsimp only)
theorem zbk (hT : P.toTables = Q.toTables) {Esc : Value → Prop} (ts : Array TypeId) (t : TypeId) (x : Array Value) : yac P Q X Esc (Builtin.copy_ ts t x) := by
 unfold Builtin.copy_
 (repeat' first
  |exact yac.pure _
  |exact yac.halt _
  |with_reducible first | assumption | apply zgd | apply zfi | apply zfr | apply zdb | apply zce
  |refine yac.bind ?_ (fun _ => ?_)
  |split
  |dsimp only)
theorem zbo (hT : P.toTables = Q.toTables) {Esc : Value → Prop} (ts : Array TypeId) (t : TypeId) (x : Array Value) : yac P Q X Esc (Builtin.delete_ ts t x) := by
 unfold Builtin.delete_
 (repeat' first
  |exact yac.pure _
  |exact yac.halt _
  |with_reducible first | assumption | apply zgd | apply zbc | apply zcd | apply zfd
  |((with_reducible refine zcs ?_ (fun _ => ?_)); · (intro o ho; cases o <;> first | (cases ho; done) | exact .inl rfl | exact .inr fun v => ⟨_, _, rfl, (by rfl)⟩))
  |refine yac.bind ?_ (fun _ => ?_)
  |split
  |dsimp only)
theorem zbe (hT : P.toTables = Q.toTables) {Esc : Value → Prop} (ts : Array TypeId) (t : TypeId) (x : Array Value) : yac P Q X Esc (Builtin.clear_ ts t x) := by
 unfold Builtin.clear_
 (repeat' first
  |exact yac.pure _
  |exact yac.halt _
  |with_reducible first | assumption | apply zgd | apply zgm | apply zfr | apply zfd
  |((with_reducible refine zcs ?_ (fun _ => ?_)); · (intro o ho; cases o <;> first | (cases ho; done) | exact .inl rfl | exact .inr fun v => ⟨_, _, rfl, (by rfl)⟩))
  |refine yac.bind ?_ (fun _ => ?_)
  |split
  |dsimp only)
end Go.Sim

namespace Go.Sim
variable {P Q : Program} {X : Nat → Prop}
variable (hT : P.toTables = Q.toTables)
theorem zae (hT : P.toTables = Q.toTables) {Esc : Value → Prop} (ts : Array TypeId) (t : TypeId) (x : Array Value) : yac P Q X Esc (Builtin.append_ ts t x) := by
 unfold Builtin.append_
 split
 ·refine yac.bind (zgd hT _) fun d => ?_
  split
  ·split
   ·refine yac.bind (zfi hT _) fun size => ?_
    extract_lets -underBinder +onlyGivenNames jp1
    have h1 : ∀ z, yac P Q X Esc (jp1 z) := by
     intro z
     unfold jp1
     extract_lets -underBinder +onlyGivenNames jp2
     have h2 : ∀ n, yac P Q X Esc (jp2 n) := by
      intro n
      unfold jp2
      extract_lets -underBinder +onlyGivenNames app need
      have ha : Sim P Q X app := by
       unfold app
       (repeat' first
  |exact yac.pure _
  |exact yac.halt _
  |with_reducible first | assumption | apply zfz | apply zgd | apply zgm | apply zfi | apply zak | apply zez | apply zec | apply zbd | apply zfr | apply zdb | apply zce | apply zan | refine zeq ?_
  |((with_reducible refine zfg ?_); · (intro b v; cases b <;> exact ⟨_, _, rfl, (by rfl)⟩))
  |refine yac.bind ?_ (fun _ => ?_)
  |split
  |dsimp only)
      clear_value app
      split
      ·(repeat' first
  |exact yac.pure _
  |exact yac.halt _
  |with_reducible first | assumption | apply zfz | apply zgd | apply zgm | apply zfi | apply zak | apply zez | apply zec | apply zbd | apply zfr | apply zdb | apply zce | apply zan | refine zeq ?_
  |((with_reducible refine zfg ?_); · (intro b v; cases b <;> exact ⟨_, _, rfl, (by rfl)⟩))
  |refine yac.bind ?_ (fun _ => ?_)
  |split
  |dsimp only)
      ·refine yac.bind (zfz hT _) fun ti => ?_
       extract_lets -underBinder +onlyGivenNames jp3
       have h3 : ∀ u, yac P Q X Esc (jp3 u) := by
        intro u
        unfold jp3
        refine yac.bind (zfz hT _) fun tj => ?_
        extract_lets -underBinder +onlyGivenNames jp4
        have h4 : ∀ u, yac P Q X Esc (jp4 u) := by
         intro u
         unfold jp4
         (repeat' first
  |exact yac.pure _
  |exact yac.halt _
  |with_reducible first | assumption | apply zfz | apply zgd | apply zgm | apply zfi | apply zak | apply zez | apply zec | apply zbd | apply zfr | apply zdb | apply zce | apply zan | refine zeq ?_
  |((with_reducible refine zfg ?_); · (intro b v; cases b <;> exact ⟨_, _, rfl, (by rfl)⟩))
  |refine yac.bind ?_ (fun _ => ?_)
  |split
  |dsimp only)
        clear_value jp4
        split
        ·refine yac.bind ?_ fun u => h4 _
         (repeat' first
  |exact yac.pure _
  |exact yac.halt _
  |with_reducible first | assumption | apply zfz | apply zgd | apply zgm | apply zfi | apply zak | apply zez | apply zec | apply zbd | apply zfr | apply zdb | apply zce | apply zan | refine zeq ?_
  |((with_reducible refine zfg ?_); · (intro b v; cases b <;> exact ⟨_, _, rfl, (by rfl)⟩))
  |refine yac.bind ?_ (fun _ => ?_)
  |split
  |dsimp only)
        ·exact h4 _
       clear_value jp3
       split
       ·exact yac.bind (zez hT _) fun u => h3 _
       ·exact h3 _
     clear_value jp2
     split
     ·refine yac.bind (zak _) fun i => ?_
      extract_lets -underBinder +onlyGivenNames l jp5
      have h5 : ∀ u, yac P Q X Esc (jp5 u) := by
       intro u
       unfold jp5
       refine yac.bind (zfz hT _) fun tk => ?_
       extract_lets -underBinder +onlyGivenNames jp6
       have h6 : ∀ u, yac P Q X Esc (jp6 u) := fun u => h2 _
       clear_value jp6
       split
       ·exact yac.bind (zbd _) fun _ => yac.bind (zez hT _) fun _ => h6 _
       ·exact h6 _
      clear_value jp5
      split
      ·exact yac.bind (zez hT _) fun _ => h5 _
      ·exact h5 _
     ·exact yac.bind (zdb _) fun n => h2 _
    clear_value jp1
    (repeat' first
  |exact yac.pure _
  |exact yac.halt _
  |with_reducible first | assumption | apply zfz | apply zgd | apply zgm | apply zfi | apply zak | apply zez | apply zec | apply zbd | apply zfr | apply zdb | apply zce | apply zan | refine zeq ?_
  |((with_reducible refine zfg ?_); · (intro b v; cases b <;> exact ⟨_, _, rfl, (by rfl)⟩))
  |refine yac.bind ?_ (fun _ => ?_)
  |split
  |dsimp only)
    all_goals exact h1 _
   ·(repeat' first
  |exact yac.pure _
  |exact yac.halt _
  |with_reducible first | assumption | apply zfz | apply zgd | apply zgm | apply zfi | apply zak | apply zez | apply zec | apply zbd | apply zfr | apply zdb | apply zce | apply zan | refine zeq ?_
  |((with_reducible refine zfg ?_); · (intro b v; cases b <;> exact ⟨_, _, rfl, (by rfl)⟩))
  |refine yac.bind ?_ (fun _ => ?_)
  |split
  |dsimp only)
  ·(repeat' first
  |exact yac.pure _
  |exact yac.halt _
  |with_reducible first | assumption | apply zfz | apply zgd | apply zgm | apply zfi | apply zak | apply zez | apply zec | apply zbd | apply zfr | apply zdb | apply zce | apply zan | refine zeq ?_
  |((with_reducible refine zfg ?_); · (intro b v; cases b <;> exact ⟨_, _, rfl, (by rfl)⟩))
  |refine yac.bind ?_ (fun _ => ?_)
  |split
  |dsimp only)
 ·(repeat' first
  |exact yac.pure _
  |exact yac.halt _
  |with_reducible first | assumption | apply zfz | apply zgd | apply zgm | apply zfi | apply zak | apply zez | apply zec | apply zbd | apply zfr | apply zdb | apply zce | apply zan | refine zeq ?_
  |((with_reducible refine zfg ?_); · (intro b v; cases b <;> exact ⟨_, _, rfl, (by rfl)⟩))
  |refine yac.bind ?_ (fun _ => ?_)
  |split
  |dsimp only)
end Go.Sim

namespace Go.Sim
variable {P Q : Program} {X : Nat → Prop}
variable (hT : P.toTables = Q.toTables)
theorem zeo {Esc : Nat × Nat → Prop} (a b c d : Nat) : yac P Q X Esc (Op.Complex.product a b c d) := by
 unfold Op.Complex.product
 (repeat' first
  |exact yac.pure _
  |with_reducible first | assumption | apply zax | apply zbn | apply zbf
  |refine yac.bind ?_ (fun _ => ?_)
  |split
  |dsimp only)
theorem zbl {Esc : Nat × Nat → Prop} (s a b c d : Nat) : yac P Q X Esc (Op.Complex.corrected s a b c d) := by
 unfold Op.Complex.corrected
 (repeat' first
  |exact yac.pure _
  |with_reducible first | assumption | apply zax | apply zbn | apply zbf
  |refine yac.bind ?_ (fun _ => ?_)
  |split
  |dsimp only)
theorem zes {Esc : Nat × Nat → Prop} (a b c d : Nat) : yac P Q X Esc (Op.Complex.quotient a b c d) := by
 unfold Op.Complex.quotient
 (repeat' first
  |exact yac.pure _
  |with_reducible first | assumption | apply zax | apply zbn | apply zbf | apply zbm | apply zbl | refine zeq ?_
  |refine yac.bind ?_ (fun _ => ?_)
  |split
  |dsimp only)
theorem zbg {Esc : Value → Prop} (op : BinOp) (k : FloatKind) (a b c d : Nat) : yac P Q X Esc (Op.complexOp op k a b c d) := by
 unfold Op.complexOp
 (repeat' first
  |exact yac.pure _
  |exact yac.halt _
  |with_reducible first | assumption | apply zaf | apply zbi | apply zeo | apply zes
  |refine yac.bind ?_ (fun _ => ?_)
  |split
  |dsimp only)
end Go.Sim
