/- What is drawn is never given back. Pieces of the model's doing that two programs do alike in two worlds: worlds that are one but for their tapes and for blocks that are bare in the second: whoever ends well in the second has touched none of them. The model's own operations are done alike. The model's own operations are done alike: instructions. The model's own operations are done alike: maps, comparisons, conversions, builtins. The model's own operations are done alike: maps, arithmetic, conversions, builtins. The model's own operations are done alike: conversions, builtins, methods, calls. append is done alike. -/
import GoSem.Step

set_option linter.unusedVariables false
set_option linter.unusedSimpArgs false
set_option linter.unusedSectionVars false
set_option maxHeartbeats 800000

namespace Go.Sim
theorem ynt {p : Program} {w w' : World} {at_ : Addr} {u : TypeId} {k : Addr} {v : Value} {m : Bool} {l : List Addr} (h : w.viewStore p at_ u k v m = .ok (w', l)) : w'.drawn = w.drawn := by
 unfold World.viewStore at h
 simp only [bind, Except.bind, pure, Except.pure] at h
 repeat' split at h
 all_goals first | (cases h; done) | skip
 all_goals (cases h; rfl)
theorem yof {p : Program} {w w' : World} {a : Addr} {v : Value} {m : Bool} {l : List Addr} (h : w.farStore p a v m = .ok (w', l)) : w'.drawn = w.drawn := by
 unfold World.farStore at h
 split at h
 ·split at h
  ·next r e =>
   obtain ⟨x, y⟩ := r
   cases h
   exact ynt e
  ·cases h
 ·cases h
theorem ask_drawn {α : Type} (a : Ask α) : ∀ w : World, w.drawn ≤ (w.ask a).2.drawn := by
 induction a with
 |done a => exact fun w => Nat.le_refl _
 |ask what range k ih =>
  intro w
  unfold World.ask
  dsimp only
  split
  ·exact ih _ w
  ·exact Nat.le_trans (Nat.le_succ _) (ih _ { w with drawn := w.drawn + 1 })
theorem sys_drawn (w : World) (c : Sys) : w.drawn ≤ (w.sys c).2.drawn := by
 have := ask_drawn (Kernel.perform c w.os) w
 unfold World.sys
 revert this
 generalize w.ask (Kernel.perform c w.os) = x
 obtain ⟨⟨r, o⟩, w1⟩ := x
 intro h
 cases r <;> first | exact Nat.le_refl _ | exact h
def _root_.Go.Result.wd {α : Type} : Result α → World
 |.ok _ w => w
 |.halt _ w => w
theorem yeb {α : Type} (P : Program) (s : Sem α) : ∀ w : World, w.drawn ≤ (s.run P w).wd.drawn := by
 induction s with
 |pure a => exact fun w => Nat.le_refl _
 |halt h => exact fun w => Nat.le_refl _
 |load m a k ih =>
  intro w
  simp only [Sem.run]
  repeat' split
  ·exact ih _ _
  ·exact ih _ _
  ·exact Nat.le_refl _
 |store m a v k ih =>
  intro w
  have key : w.drawn ≤ (match w.cell? a with
   |some _ => if w.frozen? a then .halt (.unsupported (.unsafePointer "a write to bytes that a string shares")) w else k.run P (w.setCell a v)
   |none => match w.farStore P a v (m == .atomic) with
    |.ok (w, _) => k.run P w
    |.error h => .halt h w : Result _).wd.drawn := by
   repeat' split
   ·exact Nat.le_refl _
   ·exact ih (w.setCell a v)
   ·next x w' l e => rw [← yof e]; exact ih w'
   ·exact Nat.le_refl _
  cases v <;> first | exact Nat.le_refl _ | exact key
 |new o k ih => intro w; exact ih _ { w with heap := w.heap.push o }
 |shape r k ih => exact fun w => ih _ w
 |freeze a n k ih => intro w; simp only [Sem.run]; have : (w.freeze a n).drawn = w.drawn := by (unfold World.freeze; split <;> rfl)
                     rw [← this]; exact ih _
 |frozen a k ih => exact fun w => ih _ w
 |getObj r k ih =>
  intro w
  simp only [Sem.run]
  repeat' split
  ·exact Nat.le_refl _
  ·exact ih _ _
  ·exact Nat.le_refl _
 |setObj r o k ih =>
  intro w
  simp only [Sem.run]
  repeat' split
  ·exact Nat.le_refl _
  ·exact ih { w with heap := w.heap.setIfInBounds r o }
  ·exact Nat.le_refl _
 |choose q k ih =>
  intro w
  simp only [Sem.run]
  split
  ·exact ih _ w
  ·exact Nat.le_trans (Nat.le_succ _) (ih _ { w with drawn := w.drawn + 1 })
 |sys c k ih => intro w; exact Nat.le_trans (sys_drawn w c) (ih _ _)
 |program k ih => exact fun w => ih _ w
 |mark m k ih => exact fun w => ih w
def _root_.Go.Obj.odd : Obj → Bool
 |.loop .. | .pending .. => true
 |_ => false
def _root_.Go.Obj.dull (_ : Obj) : Obj := .coro none
def _root_.Go.Obj.tamed (o : Obj) : Obj := if o.odd then o.dull else o
def _root_.Go.Obj.fit : Obj → Bool
 |.loop .. | .pending .. | .coro .. => false
 |_ => true
theorem fit_odd {o : Obj} (h : o.fit = true) : o.odd = false := by cases o <;> first | rfl | cases h
theorem ygu {o : Obj} (h : o.odd = false) : o.tamed = o := by simp [Obj.tamed, h]
structure Lim where
 lim : Nat
 up : Nat
 dn : Nat
 tw : Nat → Question → Nat
 tv : Nat → Question → Nat
structure Rel (X : Nat → Prop) (L : Lim) (w v : World) : Prop where
 size : v.heap.size = w.heap.size
 same : ∀ b, ¬ X b → v.heap[b]? = (w.heap[b]?).map Obj.tamed
 bare : ∀ b, X b → ∃ c t, w.heap[b]? = some (.cells c t (0, 0)) ∧ v.heap[b]? = some (.cells #[] t (0, 0))
 os : v.os = w.os
 output : v.output = w.output
 fut : ∀ i, v.drawn + i < L.lim → v.tape (v.drawn + i) = w.tape (w.drawn + i)
 cnt : w.drawn + L.dn = v.drawn + L.up
 tw : w.tape = L.tw
 tv : v.tape = L.tv
def yju : Mark → Bool
 |.extern _ | .noRoom => true
 |_ => false
def yif (X : Nat → Prop) (n : Nat) (e : Event) : Prop :=
 match e.loc with
 |.cell a => ¬ X a.block ∧ a.block < n
 |.obj r => ¬ X r ∧ r < n
 |.mark m => yju m = true
 |.output => True
 |_ => False
def yie : Halt → Bool
 |.unsupported (.initOrder _) => false
 |.unsupported _ | .stuck _ => true
 |_ => false
def okH : Halt → Bool
 |.panic _ => true
 |x => yie x
structure ycg (X : Nat → Prop) (w w' : World) : Prop where
 size : w.heap.size ≤ w'.heap.size
 keep : ∀ b, X b → w'.heap[b]? = w.heap[b]?
 odd : ∀ (b : Nat) (o : Obj), w.heap[b]? = some o → w'.heap[b]? = some o ∨ ∃ o' : Obj, w'.heap[b]? = some o' ∧ o'.fit = true
theorem ycg.refl (X : Nat → Prop) (w : World) : ycg X w w := ⟨Nat.le_refl _, fun _ _ => rfl, fun _ _ h => .inl h⟩
theorem ycg.trans {X : Nat → Prop} {a b c : World} (h : ycg X a b) (k : ycg X b c) : ycg X a c := ⟨Nat.le_trans h.size k.size, fun x hx => (k.keep x hx).trans (h.keep x hx), fun x o ho => by
 rcases h.odd x o ho with e | ⟨o', e, hf⟩
 ·exact k.odd x o e
 ·rcases k.odd x o' e with e2 | e2
  ·exact .inr ⟨o', e2, hf⟩
  ·exact .inr e2⟩
theorem ycg.of_heap {X : Nat → Prop} {w w' : World} (h : w'.heap = w.heap) : ycg X w w' := ⟨by rw [h]; exact Nat.le_refl _, fun _ _ => by rw [h], fun _ _ e => .inl (by rw [h]; exact e)⟩
def ybd (X : Nat → Prop) (L : Lim) {α : Type} (Esc : α → Prop) (w : World) (es : Array Event) (r : Result α × Array Event) (res : Result α) : Prop :=
 res.wd.drawn ≤ L.lim → match res with
 |.ok a v' => Esc a ∨ ∃ w' new, r = (.ok a w', es ++ new) ∧ Rel X L w' v' ∧ ycg X w w' ∧ ∀ e ∈ new, yif X w'.heap.size e
 |.halt x v' => okH x = true ∧ ∀ y, x = .panic y → ∃ w' new, r = (.halt (.panic y) w', es ++ new) ∧ Rel X L w' v' ∧ ycg X w w' ∧ ∀ e ∈ new, yif X w'.heap.size e
def yaa (P Q : Program) (X : Nat → Prop) {α : Type} (Esc : α → Prop) (s : Sem α) : Prop :=
 ∀ L w v es, Rel X L w v → ybd X L Esc w es (s.runT P w es) (s.run Q v)
abbrev Sim (P Q : Program) (X : Nat → Prop) {α : Type} (s : Sem α) : Prop := yaa P Q X (fun _ => False) s
section
variable {X : Nat → Prop} {L : Lim} {w v : World}
theorem Rel.xcell (h : Rel X L w v) {a : Addr} (hX : X a.block) : v.cell? a = none := by
 obtain ⟨c, t, _, hv⟩ := h.bare _ hX
 simp [World.cell?, hv]
theorem Rel.xlt (h : Rel X L w v) {b : Nat} (hX : X b) : b < w.heap.size := by
 obtain ⟨c, t, hw, _⟩ := h.bare _ hX
 exact (Array.getElem?_eq_some_iff.1 hw).1
def Wild (o : Obj) : Prop := (∃ c t, o = .pending c t) ∨ (∃ l, o = .loop l)
theorem yip (o : Obj) : ¬ Wild o.tamed := by
 rintro (⟨c, t, e⟩ | ⟨l, e⟩) <;> cases o <;> simp [Obj.tamed, Obj.odd, Obj.dull] at e
theorem Rel.nov (h : Rel X L w v) {b : Nat} {o : Obj} (ho : v.heap[b]? = some o) : ¬ Wild o := by
 by_cases hX : X b
 ·obtain ⟨c, t, _, hv⟩ := h.bare _ hX
  rw [hv] at ho
  cases ho
  rintro (⟨c, t, e⟩ | ⟨l, e⟩) <;> cases e
 ·rw [h.same b hX, Option.map_eq_some_iff] at ho
  obtain ⟨x, _, rfl⟩ := ho
  exact yip x
theorem Rel.cell (h : Rel X L w v) {a : Addr} {x : Value} (hc : v.cell? a = some x) : w.cell? a = some x ∧ ¬ X a.block ∧ a.block < w.heap.size := by
 by_cases hX : X a.block
 ·rw [h.xcell hX] at hc; cases hc
 ·have e := h.same _ hX
  unfold World.cell? at hc ⊢
  rw [e] at hc
  cases hw : w.heap[a.block]? with
  |none => rw [hw] at hc; cases hc
  |some o =>
   rw [hw] at hc
   cases o <;> simp [Obj.tamed, Obj.odd, Obj.dull] at hc
   refine ⟨?_, hX, (Array.getElem?_eq_some_iff.1 hw).1⟩
   simpa using hc
theorem Rel.frozen (h : Rel X L w v) (a : Addr) : v.frozen? a = w.frozen? a := by
 by_cases hX : X a.block
 ·obtain ⟨c, t, hw, hv⟩ := h.bare _ hX
  simp [World.frozen?, hv, hw]
 ·unfold World.frozen?
  rw [h.same _ hX]
  cases w.heap[a.block]? with
  |none => rfl
  |some o => cases o <;> rfl
theorem yey (h : Rel X L w v) (a : Addr) (s : String) : yie (v.noCell a s) = true := by
 unfold World.noCell
 cases hv : v.heap[a.block]? with
 |none => rfl
 |some o =>
  have := h.nov hv
  cases o <;> first | rfl | exact absurd (.inl ⟨_, _, rfl⟩) this
theorem yrn {P Q : Program} (hT : P.toTables = Q.toTables) (t : TypeId) : P.underlying t = Q.underlying t := by unfold Program.underlying; simp only [hT]
theorem ycr {P Q : Program} (hT : P.toTables = Q.toTables) (t : TypeId) : P.cellsOf t = Q.cellsOf t := by unfold Program.cellsOf; simp only [hT]
theorem yfk {P Q : Program} (hT : P.toTables = Q.toTables) (t : TypeId) : P.bytesOf t = Q.bytesOf t := by unfold Program.bytesOf; simp only [hT]
theorem ycc {P Q : Program} (hT : P.toTables = Q.toTables) : P.depth = Q.depth := by unfold Program.depth; simp only [hT]
theorem yee {P Q : Program} (hT : P.toTables = Q.toTables) (d : Nat) : ∀ t off, byteOfCell P d t off = byteOfCell Q d t off := by
 induction d with
 |zero => intro t off; rfl
 |succ d ih =>
  intro t off
  unfold byteOfCell
  simp only [yrn hT, ycr hT, yfk hT, ih]
theorem yob {P Q : Program} (hT : P.toTables = Q.toTables) (d : Nat) : ∀ t b, cellHolding P d t b = cellHolding Q d t b := by
 induction d with
 |zero => intro t b; rfl
 |succ d ih =>
  intro t b
  unfold cellHolding
  simp only [yrn hT, ycr hT, yfk hT, ih]
theorem yta {P Q : Program} (hT : P.toTables = Q.toTables) (d : Nat) : ∀ t off, plainCell P d t off = plainCell Q d t off := by
 induction d with
 |zero => intro t off; rfl
 |succ d ih =>
  intro t off
  unfold plainCell
  simp only [yrn hT, ycr hT, ih]
theorem tight_eq {P Q : Program} (hT : P.toTables = Q.toTables) (d : Nat) : ∀ t, tight P d t = tight Q d t := by
 induction d with
 |zero => intro t; rfl
 |succ d ih =>
  intro t
  unfold tight
  simp only [yrn hT, yfk hT, ih]
theorem yto {P Q : Program} (hT : P.toTables = Q.toTables) (c : Array Value) (e : TypeId) (f : Nat) : ∀ x stop, seenCells P c e f x stop = seenCells Q c e f x stop := by
 induction f with
 |zero => intro x stop; rfl
 |succ f ih =>
  intro x stop
  unfold seenCells
  simp only [yfk hT, ycr hT, ycc hT, yob hT, ih]
theorem seen_eq {P Q : Program} (hT : P.toTables = Q.toTables) (w : World) (at_ : Addr) (u : TypeId) (k : Addr) (m : Bool) : w.seen P at_ u k m = w.seen Q at_ u k m := by
 unfold World.seen
 simp only [ycc hT, yta hT, yee hT, ycr hT, yfk hT, yto hT]
theorem ydv : ∀ (n m : Nat), (leBytes n m).length = n
 |0, _ => rfl
 |n + 1, m => by rw [leBytes, List.length_cons, ydv n]
theorem bytes_pos {v : Value} {l : List UInt8} (h : v.bytes? = some l) : 0 < l.length := by
 cases v with
 |bool b => simp only [Value.bytes?, Option.some.injEq] at h; subst h; exact Nat.one_pos
 |int k n => simp only [Value.bytes?, Option.some.injEq] at h; subst h; rw [ydv]; cases k <;> decide
 |float k n => simp only [Value.bytes?, Option.some.injEq] at h; subst h; rw [ydv]; cases k <;> decide
 |complex k n m => simp only [Value.bytes?, Option.some.injEq] at h; subst h; rw [List.length_append, ydv]; cases k <;> simp [FloatKind.bytes] <;> omega
 |_ => simp [Value.bytes?] at h
theorem yol {p : Program} {c : Array Value} {e : TypeId} {f x stop : Nat} {l : List (Nat × Nat × List UInt8)} (h : seenCells p c e f x stop = .ok l) (hx : x < stop) : c ≠ #[] := by
 rintro rfl
 cases f with
 |zero => simp [seenCells] at h
 |succ f =>
  unfold seenCells at h
  rw [if_neg (by omega)] at h
  dsimp only at h
  split at h
  ·cases h
  ·split at h
   ·cases h
   ·simp at h
theorem seen_ok {p : Program} {w : World} {at_ : Addr} {u : TypeId} {k : Addr} {m : Bool} {r : Array Value × TypeId × (Nat × Nat) × Nat × Value × List (Nat × Nat × List UInt8)} (h : w.seen p at_ u k m = .ok r) :
  ∃ c t z, w.heap[at_.block]? = some (.cells c t z) ∧ c ≠ #[] ∧ r.1 = c ∧ r.2.1 = t ∧ r.2.2.1 = z := by
 unfold World.seen at h
 simp only [bind, Except.bind, pure, Except.pure] at h
 split at h
 ·cases h
 split at h
 ·next like hl =>
  split at h
  ·next size hsz =>
   have hp : 0 < size := by
    rw [Option.map_eq_some_iff] at hsz
    obtain ⟨l, h1, rfl⟩ := hsz
    exact bytes_pos h1
   split at h
   ·next β hβ =>
    split at h
    ·next c t z hw =>
     split at h
     ·cases h
     ·split at h
      ·next b0 hb0 =>
       split at h
       ·cases h
       ·next cells hc =>
        refine ⟨c, t, z, hw, yol hc (by omega), ?_⟩
        (repeat' split at h) <;> first | (cases h; exact ⟨rfl, rfl, rfl⟩) | cases h
      ·cases h
    ·cases h
   ·cases h
  ·cases h
 ·cases h
theorem Rel.seen (h : Rel X L w v) {p : Program} {at_ : Addr} {u : TypeId} {k : Addr} {m : Bool} {r : Array Value × TypeId × (Nat × Nat) × Nat × Value × List (Nat × Nat × List UInt8)} (e : v.seen p at_ u k m = .ok r) :
  w.seen p at_ u k m = .ok r ∧ ¬ X at_.block ∧ at_.block < w.heap.size := by
 obtain ⟨c, t, z, hv, hc, _⟩ := seen_ok e
 have hX : ¬ X at_.block := fun hx => by
  obtain ⟨c', t', _, hv'⟩ := h.bare _ hx
  rw [hv] at hv'
  cases hv'
  exact hc rfl
 have hs := h.same _ hX
 rw [hv] at hs
 cases hw : w.heap[at_.block]? with
 |none => rw [hw] at hs; cases hs
 |some o =>
  rw [hw, Option.map_some, Option.some.injEq] at hs
  have ho : o = .cells c t z := by cases o <;> simp [Obj.tamed, Obj.odd, Obj.dull] at hs <;> simp [hs]
  subst ho
  refine ⟨?_, hX, (Array.getElem?_eq_some_iff.1 hw).1⟩
  rw [← e]
  unfold World.seen
  simp only [hw, hv]
theorem ywu {p : Program} {v : World} {at_ : Addr} {u : TypeId} {k : Addr} {m : Bool} {y : Value} {l : List Addr} (h : v.viewLoad p at_ u k m = .ok (y, l)) :
  ∃ r, v.seen p at_ u k m = .ok r ∧ (∀ w : World, w.seen p at_ u k m = .ok r → w.viewLoad p at_ u k m = .ok (y, l)) ∧ ∀ b ∈ l, b.block = at_.block := by
 cases hs : v.seen p at_ u k m with
 |error e => unfold World.viewLoad at h; rw [hs] at h; cases h
 |ok r =>
  refine ⟨r, rfl, fun w hw => ?_, ?_⟩
  ·unfold World.viewLoad at h ⊢
   rw [hs] at h
   rw [hw]
   exact h
  ·unfold World.viewLoad at h
   rw [hs] at h
   simp only [bind, Except.bind, pure, Except.pure] at h
   split at h
   ·cases h
    intro b hb
    obtain ⟨x, _, rfl⟩ := List.mem_map.1 hb
    rfl
   ·cases h
theorem yld {p : Program} {v v' : World} {at_ : Addr} {u : TypeId} {k : Addr} {x : Value} {m : Bool} {l : List Addr} (h : v.viewStore p at_ u k x m = .ok (v', l)) :
  ∃ r c t z, v.seen p at_ u k m = .ok r ∧ v' = { v with heap := v.heap.setIfInBounds at_.block (.cells c t z) } ∧ (∀ w : World, w.seen p at_ u k m = .ok r → w.viewStore p at_ u k x m = .ok ({ w with heap := w.heap.setIfInBounds at_.block (.cells c t z) }, l)) ∧ ∀ b ∈ l, b.block = at_.block := by
 cases ht : tight p p.depth u with
 |false => unfold World.viewStore at h; rw [ht] at h; cases h
 |true =>
  cases hs : v.seen p at_ u k m with
  |error e => unfold World.viewStore at h; rw [ht, hs] at h; cases h
  |ok r =>
   obtain ⟨c0, t0, z0, first, like, cells⟩ := r
   unfold World.viewStore at h
   rw [ht, hs] at h
   simp only [bind, Except.bind, pure, Except.pure, Bool.not_true, Bool.false_eq_true, if_false] at h
   split at h
   ·next bytes hb =>
    split at h
    ·next hne =>
     cases h
    ·next hne =>
     split at h
     ·cases h
     ·next c hc =>
      cases h
      refine ⟨_, c, t0, z0, rfl, rfl, fun w hw => ?_, fun b hb => ?_⟩
      ·unfold World.viewStore
       rw [ht, hw]
       simp only [bind, Except.bind, pure, Except.pure, Bool.not_true, Bool.false_eq_true, if_false, hb, if_neg hne, hc]
      ·obtain ⟨x, _, rfl⟩ := List.mem_map.1 hb
       rfl
   ·cases h
theorem Rel.viewAt (h : Rel X L w v) {b : Nat} {at_ : Addr} {u : TypeId} (e : v.heap[b]? = some (.view at_ u)) : w.heap[b]? = some (.view at_ u) ∧ ¬ X b := by
 have hX : ¬ X b := fun hx => by
  obtain ⟨c', t', _, hv'⟩ := h.bare _ hx
  rw [e] at hv'
  cases hv'
 refine ⟨?_, hX⟩
 have hs := h.same _ hX
 rw [e] at hs
 cases hw : w.heap[b]? with
 |none => rw [hw] at hs; cases hs
 |some o =>
  rw [hw, Option.map_some, Option.some.injEq] at hs
  cases o <;> simp [Obj.tamed, Obj.odd, Obj.dull] at hs <;> simp [hs]
theorem Rel.far {P Q : Program} (hT : P.toTables = Q.toTables) (h : Rel X L w v) (a : Addr) (m : Bool) : (∃ x, v.farLoad Q a m = .error x ∧ yie x = true) ∨ ∃ y l, v.farLoad Q a m = .ok (y, l) ∧ w.cell? a = none ∧ w.farLoad P a m = .ok (y, l) ∧ ∀ b ∈ l, ¬ X b.block ∧ b.block < w.heap.size := by
 cases hv : v.heap[a.block]? with
 |none => left; unfold World.farLoad; rw [hv]; exact ⟨_, rfl, yey h a _⟩
 |some o =>
  cases o with
  |view at_ u =>
   obtain ⟨hw, _⟩ := h.viewAt hv
   cases hl : v.viewLoad Q at_ u a m with
   |error e => left; unfold World.farLoad; rw [hv]; dsimp only; rw [hl]; exact ⟨_, rfl, rfl⟩
   |ok yl =>
    obtain ⟨y, l⟩ := yl
    obtain ⟨r, h1, h2, h3⟩ := ywu hl
    obtain ⟨g1, g2, g3⟩ := h.seen h1
    right
    refine ⟨y, l, ?_, ?_, ?_, fun b hb => by rw [h3 b hb]; exact ⟨g2, g3⟩⟩
    ·unfold World.farLoad; rw [hv]; dsimp only; rw [hl]
    ·simp [World.cell?, hw]
    ·unfold World.farLoad; rw [hw]; dsimp only
     have : w.viewLoad P at_ u a m = w.viewLoad Q at_ u a m := by unfold World.viewLoad; rw [seen_eq hT]
     rw [this, h2 w g1]
  |_ => left; unfold World.farLoad; rw [hv]; exact ⟨_, rfl, yey h a _⟩
theorem Rel.farS {P Q : Program} (hT : P.toTables = Q.toTables) (h : Rel X L w v) (a : Addr) (x : Value) (m : Bool) : (∃ y, v.farStore Q a x m = .error y ∧ yie y = true) ∨ ∃ b c t z l, ¬ X b ∧ b < w.heap.size ∧ v.farStore Q a x m = .ok ({ v with heap := v.heap.setIfInBounds b (.cells c t z) }, l) ∧ w.cell? a = none ∧ w.farStore P a x m = .ok ({ w with heap := w.heap.setIfInBounds b (.cells c t z) }, l) ∧ ∀ d ∈ l, d.block = b := by
 cases hv : v.heap[a.block]? with
 |none => left; unfold World.farStore; rw [hv]; exact ⟨_, rfl, yey h a _⟩
 |some o =>
  cases o with
  |view at_ u =>
   obtain ⟨hw, _⟩ := h.viewAt hv
   cases hl : v.viewStore Q at_ u a x m with
   |error e => left; unfold World.farStore; rw [hv]; dsimp only; rw [hl]; exact ⟨_, rfl, rfl⟩
   |ok yl =>
    obtain ⟨v', l⟩ := yl
    obtain ⟨r, c, t, z, h1, rfl, h2, h3⟩ := yld hl
    obtain ⟨g1, g2, g3⟩ := h.seen h1
    right
    refine ⟨at_.block, c, t, z, l, g2, g3, ?_, ?_, ?_, h3⟩
    ·unfold World.farStore; rw [hv]; dsimp only; rw [hl]
    ·simp [World.cell?, hw]
    ·unfold World.farStore; rw [hw]; dsimp only
     have : w.viewStore P at_ u a x m = w.viewStore Q at_ u a x m := by unfold World.viewStore; rw [seen_eq hT, ycc hT, tight_eq hT]
     rw [this, h2 w g1]
  |_ => left; unfold World.farStore; rw [hv]; exact ⟨_, rfl, yey h a _⟩
end
variable {P Q : Program} {X : Nat → Prop} {L : Lim}
theorem yvm {x : Halt} (h : yie x = true) : okH x = true := by
 cases x <;> first | rfl | exact h
theorem ybd.halt {α : Type} {Esc : α → Prop} {w : World} {es : Array Event} {r : Result α × Array Event} {x : Halt} {v : World} (h : yie x = true) : ybd X L Esc w es r (.halt x v) :=
 fun _ => ⟨yvm h, fun y e => by subst e; cases h⟩
theorem yaa.pure {α : Type} {Esc : α → Prop} (a : α) : yaa P Q X Esc (Sem.pure a) := fun L w v es h _ => .inr ⟨w, #[], by simp [Sem.runT], h, .refl X w, by simp⟩
theorem yif.mono {n m : Nat} {e : Event} (h : yif X n e) (hn : n ≤ m) : yif X m e := by
 unfold yif at h ⊢
 split <;> simp_all <;> omega
theorem ydz {α β : Type} (P : Program) (x : Sem α) (f : α → Sem β) (w : World) (es : Array Event) :
  (x.bind f).runT P w es = match x.runT P w es with
   |(.ok a w', es') => (f a).runT P w' es'
   |(.halt h w', es') => (.halt h w', es') := by
 induction x generalizing w es with
 |pure a => simp [Sem.bind, Sem.runT]
 |load m a k ih => simp only [Sem.bind, Sem.runT]; (repeat' split) <;> simp_all
 |store m a v k ih => cases v <;> simp only [Sem.bind, Sem.runT] <;> (try ((repeat' split) <;> simp_all))
 |new o k ih => simp [Sem.bind, Sem.runT, ih]
 |shape r k ih => simp [Sem.bind, Sem.runT, ih]
 |freeze a n k ih => simp [Sem.bind, Sem.runT, ih]
 |frozen a k ih => simp [Sem.bind, Sem.runT, ih]
 |getObj r k ih => simp only [Sem.bind, Sem.runT]; (repeat' split) <;> simp_all
 |setObj r o k ih => simp only [Sem.bind, Sem.runT]; (repeat' split) <;> simp_all
 |choose q k ih => simp only [Sem.bind, Sem.runT]; (repeat' split) <;> simp_all
 |sys c k ih => simp [Sem.bind, Sem.runT, ih]
 |program k ih => simp [Sem.bind, Sem.runT, ih]
 |mark m k ih => simp [Sem.bind, Sem.runT, ih]
 |halt h => simp [Sem.bind, Sem.runT]
theorem run_bind {α β : Type} (P : Program) (x : Sem α) (f : α → Sem β) (w : World) :
  (x.bind f).run P w = match x.run P w with
   |.ok a w' => (f a).run P w'
   |.halt h w' => .halt h w' := by
 induction x generalizing w with
 |pure a => simp [Sem.bind, Sem.run]
 |load m a k ih => simp only [Sem.bind, Sem.run]; (repeat' split) <;> simp_all
 |store m a v k ih => cases v <;> simp only [Sem.bind, Sem.run] <;> (try ((repeat' split) <;> simp_all))
 |new o k ih => simp [Sem.bind, Sem.run, ih]
 |shape r k ih => simp [Sem.bind, Sem.run, ih]
 |freeze a n k ih => simp [Sem.bind, Sem.run, ih]
 |frozen a k ih => simp [Sem.bind, Sem.run, ih]
 |getObj r k ih => simp only [Sem.bind, Sem.run]; (repeat' split) <;> simp_all
 |setObj r o k ih => simp only [Sem.bind, Sem.run]; (repeat' split) <;> simp_all
 |choose q k ih => simp only [Sem.bind, Sem.run]; (repeat' split) <;> simp_all
 |sys c k ih => simp [Sem.bind, Sem.run, ih]
 |program k ih => simp [Sem.bind, Sem.run, ih]
 |mark m k ih => simp [Sem.bind, Sem.run, ih]
 |halt h => simp [Sem.bind, Sem.run]
theorem ybd.step {α : Type} {Esc : α → Prop} {w w1 : World} {es pre : Array Event} {r : Result α × Array Event} {res : Result α} (h : ybd X L Esc w1 (es ++ pre) r res) (hs : ycg X w w1) (hp : ∀ e ∈ pre, yif X w1.heap.size e) : ybd X L Esc w es r res := by
 intro hL
 have h' := h hL
 clear h
 cases res with
 |ok b v' =>
  rcases h' with q | ⟨w', new, e, hR, hs', hn⟩
  ·exact .inl q
  ·exact .inr ⟨w', pre ++ new, by rw [e, Array.append_assoc], hR, hs.trans hs', fun x hx => (Array.mem_append.1 hx).elim (fun q => (hp x q).mono hs'.size) (hn x)⟩
 |halt x v' =>
  refine ⟨h'.1, fun y hy => ?_⟩
  obtain ⟨w', new, e, hR, hs', hn⟩ := h'.2 y hy
  exact ⟨w', pre ++ new, by rw [e, Array.append_assoc], hR, hs.trans hs', fun x hx => (Array.mem_append.1 hx).elim (fun q => (hp x q).mono hs'.size) (hn x)⟩
theorem ybd.push {α : Type} {Esc : α → Prop} {w w1 : World} {es : Array Event} {x : Event} {r : Result α × Array Event} {res : Result α} (h : ybd X L Esc w1 (es.push x) r res) (hs : ycg X w w1) (hp : yif X w1.heap.size x) : ybd X L Esc w es r res :=
 ybd.step (pre := #[x]) (by simpa using h) hs (by simpa using hp)
theorem ybd.late {α : Type} {Esc : α → Prop} {w : World} {es : Array Event} {r : Result α × Array Event} {res : Result α} (h : L.lim < res.wd.drawn) : ybd X L Esc w es r res := fun hL => absurd hL (Nat.not_le.2 h)
theorem yaa.bind {α β : Type} {Esc : β → Prop} {s : Sem α} {f : α → Sem β} (h : Sim P Q X s) (hf : ∀ a, yaa P Q X Esc (f a)) : yaa P Q X Esc (s.bind f) := by
 intro L w v es hR hL
 have h1 := h L w v es hR
 rw [run_bind] at hL ⊢
 rw [ydz]
 generalize s.run Q v = r at h1 hL
 cases r with
 |ok a v' =>
  have hm : v'.drawn ≤ ((f a).run Q v').wd.drawn := yeb Q (f a) v'
  rcases h1 (Nat.le_trans hm hL) with h1 | ⟨w', new, e, hR', hs, hn⟩
  ·exact h1.elim
  rw [e]
  exact (ybd.step (hf a L w' v' (es ++ new) hR') hs hn) hL
 |halt y v' =>
  refine ⟨(h1 hL).1, fun z hz => ?_⟩
  obtain ⟨w', new, e, hR', hs, hn⟩ := (h1 hL).2 z hz
  rw [e]
  exact ⟨w', new, rfl, hR', hs, hn⟩
theorem yaa.halt {α : Type} {Esc : α → Prop} (x : Halt) (hx : okH x = true := by rfl) : yaa P Q X Esc (Sem.halt x : Sem α) := by
 intro L w v es h _
 exact ⟨hx, fun y e => by subst e; exact ⟨w, #[], by simp [Sem.runT], h, .refl X w, by simp⟩⟩
theorem yaa.load (hT : P.toTables = Q.toTables) {α : Type} {Esc : α → Prop} {m : Mode} {a : Addr} {k : Value → Sem α} (hk : ∀ v, yaa P Q X Esc (k v)) : yaa P Q X Esc (Sem.load m a k) := by
 intro L w v es h
 simp only [Sem.run, Sem.runT]
 cases hc : v.cell? a with
 |none =>
  rcases h.far hT a (m == .atomic) with ⟨x, e, hx⟩ | ⟨y, l, e, hn, hf, hl⟩
  ·simp only [e]
   exact .halt hx
  ·simp only [e, hn, hf]
   refine ybd.step (hk y L w v _ h) (.refl X w) (fun ev hev => ?_)
   obtain ⟨b, hb, rfl⟩ := Array.mem_map.1 hev
   exact hl b (by simpa using hb)
 |some y =>
  obtain ⟨h1, h2, h3⟩ := h.cell hc
  simp only [h1]
  exact (hk y L w v _ h).push (.refl X w) ⟨h2, by omega⟩
theorem Rel.heap {w v : World} (h : Rel X L w v) (b : Nat) (hb : ¬ X b) (o : Obj) (ho : o.odd = false) :
  Rel X L { w with heap := w.heap.setIfInBounds b o } { v with heap := v.heap.setIfInBounds b o } := by
 refine ⟨by simp [h.size], fun c hc => ?_, fun c hc => ?_, h.os, h.output, h.fut, h.cnt, h.tw, h.tv⟩
 ·simp only [Array.getElem?_setIfInBounds, h.size]
  split
  ·split
   ·simp [ygu ho]
   ·rfl
  ·exact h.same c hc
 ·have : b ≠ c := fun e => hb (e ▸ hc)
  simpa only [Array.getElem?_setIfInBounds, this, if_false] using h.bare c hc
theorem Rel.set {w v : World} (h : Rel X L w v) {a : Addr} (hb : ¬ X a.block) (x : Value) : Rel X L (w.setCell a x) (v.setCell a x) := by
 unfold World.setCell
 refine ⟨by simp [h.size], fun c hc => ?_, fun c hc => ?_, h.os, h.output, h.fut, h.cnt, h.tw, h.tv⟩
 ·simp only [Array.getElem?_modify]
  split
  ·rw [h.same c hc]
   cases w.heap[c]? with
   |none => rfl
   |some o => cases o <;> rfl
  ·exact h.same c hc
 ·have : a.block ≠ c := fun e => hb (e ▸ hc)
  simpa only [Array.getElem?_modify, this, if_false] using h.bare c hc
theorem ysk {w : World} {a : Addr} (hb : ¬ X a.block) (x : Value) : ycg X w (w.setCell a x) := by
 unfold World.setCell
 refine ⟨by simp, fun c hc => ?_, fun c o ho => ?_⟩
 ·have : a.block ≠ c := fun e => hb (e ▸ hc)
  simp only [Array.getElem?_modify, this, if_false]
 ·simp only [Array.getElem?_modify]
  split
  ·rw [ho]
   cases o <;> first | exact .inl rfl | exact .inr ⟨_, rfl, rfl⟩
  ·exact .inl ho
theorem yfn {w : World} {a : Addr} (hb : ¬ X a.block) (n : Nat) : ycg X w (w.freeze a n) := by
 unfold World.freeze
 split
 ·exact .refl X w
 refine ⟨by simp, fun c hc => ?_, fun c o ho => ?_⟩
 ·have : a.block ≠ c := fun e => hb (e ▸ hc)
  simp only [Array.getElem?_modify, this, if_false]
 ·simp only [Array.getElem?_modify]
  split
  ·rw [ho]
   cases o <;> first | exact .inl rfl | exact .inr ⟨_, rfl, rfl⟩
  ·exact .inl ho
theorem ypd {w : World} {b : Nat} (hb : ¬ X b) (o : Obj) (hfit : o.fit = true) : ycg X w { w with heap := w.heap.setIfInBounds b o } := by
 refine ⟨by simp, fun c hc => ?_, fun c x hx => ?_⟩
 ·have : b ≠ c := fun e => hb (e ▸ hc)
  simp only [Array.getElem?_setIfInBounds, this, if_false]
 ·simp only [Array.getElem?_setIfInBounds]
  split
  ·next e =>
   subst e
   rw [if_pos (Array.getElem?_eq_some_iff.1 hx).1]
   exact .inr ⟨o, rfl, hfit⟩
  ·exact .inl hx
theorem Rel.grows_push {w v : World} (h : Rel X L w v) (o : Obj) : ycg X w { w with heap := w.heap.push o } := by
 refine ⟨by simp, fun c hc => ?_, fun c x hx => ?_⟩
 ·have hne : c ≠ w.heap.size := by have := h.xlt hc; omega
  simp only [Array.getElem?_push, hne, if_false]
 ·have hne : c ≠ w.heap.size := by have := (Array.getElem?_eq_some_iff.1 hx).1; omega
  simp only [Array.getElem?_push, hne, if_false]
  exact .inl hx
theorem yaa.store (hT : P.toTables = Q.toTables) {α : Type} {Esc : α → Prop} {m : Mode} {a : Addr} {x : Value} {k : Sem α} (hk : yaa P Q X Esc k) : yaa P Q X Esc (Sem.store m a x k) := by
 intro L w v es h
 have key : (∀ l, x ≠ .agg l) → (∀ l, x ≠ .tuple l) → ybd X L Esc w es ((Sem.store m a x k).runT P w es) ((Sem.store m a x k).run Q v) := by
  intro q1 q2
  have e1 : ∀ w, (Sem.store m a x k).run Q w = match w.cell? a with
   |some _ => if w.frozen? a then .halt (.unsupported (.unsafePointer "a write to bytes that a string shares")) w else k.run Q (w.setCell a x)
   |none => match w.farStore Q a x (m == .atomic) with
    |.ok (w, _) => k.run Q w
    |.error h => .halt h w := by
   intro w; cases x <;> first | rfl | exact absurd rfl (q1 _) | exact absurd rfl (q2 _)
  have e2 : ∀ w es, (Sem.store m a x k).runT P w es = match w.cell? a with
   |some _ =>
    if w.frozen? a then (.halt (.unsupported (.unsafePointer "a write to bytes that a string shares")) w, es)
    else k.runT P (w.setCell a x) (es.push ⟨.cell a, true, m == .atomic⟩)
   |none => match w.farStore P a x (m == .atomic) with
    |.ok (w, touched) => k.runT P w (es ++ touched.toArray.map (⟨.cell ·, true, m == .atomic⟩))
    |.error h => (.halt h w, es) := by
   intro w es; cases x <;> first | rfl | exact absurd rfl (q1 _) | exact absurd rfl (q2 _)
  rw [e1, e2]
  cases hc : v.cell? a with
  |none =>
   rcases h.farS hT a x (m == .atomic) with ⟨y, e, hx⟩ | ⟨b, c, t, z, l, g1, g2, e, hn, hf, hl⟩
   ·simp only [e]
    exact .halt hx
   ·simp only [e, hn, hf]
    refine ybd.step (hk _ _ _ _ (h.heap b g1 _ rfl)) (ypd g1 _ rfl) (fun ev hev => ?_)
    obtain ⟨d, hd, rfl⟩ := Array.mem_map.1 hev
    have := hl d (by simpa using hd)
    exact ⟨by rw [this]; exact g1, by rw [this]; simpa using g2⟩
  |some y =>
   obtain ⟨h1, h2, h3⟩ := h.cell hc
   simp only [h1, h.frozen a]
   split
   ·exact .halt rfl
   ·have hsz : (w.setCell a x).heap.size = w.heap.size := by simp [World.setCell]
    exact (hk _ _ _ _ (h.set h2 x)).push (ysk h2 x) ⟨h2, by rw [hsz]; exact h3⟩
 cases x with
 |agg l => exact .halt rfl
 |tuple l => exact .halt rfl
 |_ => exact key (fun l e => by cases e) (fun l e => by cases e)
theorem Rel.pushed {w v : World} (h : Rel X L w v) (o : Obj) (ho : o.odd = false) : Rel X L { w with heap := w.heap.push o } { v with heap := v.heap.push o } := by
 refine ⟨by simp [h.size], fun c hc => ?_, fun c hc => ?_, h.os, h.output, h.fut, h.cnt, h.tw, h.tv⟩
 ·simp only [Array.getElem?_push, h.size]
  split
  ·simp [ygu ho]
  ·exact h.same c hc
 ·have hne : c ≠ w.heap.size := by have := h.xlt hc; omega
  simpa only [Array.getElem?_push, h.size, hne, if_false] using h.bare c hc
theorem yaa.new {α : Type} {Esc : α → Prop} {o : Obj} {k : Nat → Sem α} (ho : o.odd = false) (hk : ∀ r, yaa P Q X Esc (k r)) : yaa P Q X Esc (Sem.new o k) := by
 intro L w v es h
 simp only [Sem.run, Sem.runT, h.size]
 refine ybd.step (pre := #[]) (w1 := { w with heap := w.heap.push o }) ?_ (h.grows_push o) (by simp)
 simp only [Array.append_empty]
 exact hk _ _ _ _ _ (h.pushed o ho)
theorem yaa.getObj {α : Type} {Esc : α → Prop} {r : Nat} {k : Obj → Sem α} (hd : ∀ o : Obj, o.odd = true → k o = k o.dull ∨ ∀ v, ∃ x v', (k o.dull).run Q v = .halt x v' ∧ yie x = true) (hk : ∀ o, yaa P Q X Esc (k o)) : yaa P Q X Esc (Sem.getObj r k) := by
 intro L w v es h
 simp only [Sem.run, Sem.runT]
 by_cases hX : X r
 ·obtain ⟨c, t, hw, hv⟩ := h.bare r hX
  simp only [hv]; exact .halt rfl
 ·have hs := h.same r hX
  cases hw : w.heap[r]? with
  |none => rw [hw] at hs; simp only [hs]; exact .halt rfl
  |some o =>
   have hlt : r < w.heap.size := (Array.getElem?_eq_some_iff.1 hw).1
   rw [hw] at hs
   cases ho : o.odd with
   |false =>
    rw [Option.map_some, ygu ho] at hs
    simp only [hs]
    cases o with
    |cells c t z => exact .halt rfl
    |_ => exact (hk _ _ _ _ _ h).push (.refl X w) ⟨hX, hlt⟩
   |true =>
    have ht : o.tamed = o.dull := by simp [Obj.tamed, ho]
    rw [Option.map_some, ht] at hs
    simp only [hs]
    have key : ybd X L Esc w es ((k o).runT P w (es.push ⟨.obj r, false, o.isChan⟩)) ((k o.dull).run Q v) := by
     rcases hd o ho with e | e
     ·rw [e]; exact (hk _ _ _ _ _ h).push (.refl X w) ⟨hX, hlt⟩
     ·obtain ⟨x, v', e, hx⟩ := e v
      rw [e]
      exact .halt hx
    cases o <;> first | (cases ho; done) | exact key
theorem yaa.setObj {α : Type} {Esc : α → Prop} {r : Nat} {o : Obj} {k : Sem α} (hfit : o.fit = true) (hk : yaa P Q X Esc k) : yaa P Q X Esc (Sem.setObj r o k) := by
 intro L w v es h
 have ho := fit_odd hfit
 simp only [Sem.run, Sem.runT]
 by_cases hX : X r
 ·obtain ⟨c, t, hw, hv⟩ := h.bare r hX
  simp only [hv]; exact .halt rfl
 have fin : ∀ hlt : r < w.heap.size, ybd X L Esc w es (k.runT P { w with heap := w.heap.setIfInBounds r o } (es.push ⟨.obj r, true, o.isChan⟩)) (k.run Q { v with heap := v.heap.setIfInBounds r o }) :=
  fun hlt => (hk _ _ _ _ (h.heap r hX o ho)).push (ypd hX o hfit) ⟨hX, by simpa using hlt⟩
 have hs := h.same r hX
 cases hw : w.heap[r]? with
 |none => rw [hw] at hs; simp only [hs]; exact .halt rfl
 |some x =>
  have hlt : r < w.heap.size := (Array.getElem?_eq_some_iff.1 hw).1
  rw [hw] at hs
  cases x <;> simp only [hs, Option.map_some, Obj.tamed, Obj.odd, Obj.dull, if_true, Bool.false_eq_true, if_false] <;> first | exact .halt rfl | exact fin hlt
theorem Rel.drew {w v : World} (h : Rel X L w v) : Rel X L { w with drawn := w.drawn + 1 } { v with drawn := v.drawn + 1 } := by
 refine ⟨h.size, h.same, h.bare, h.os, h.output, fun i hi => ?_, by show w.drawn + 1 + L.dn = v.drawn + 1 + L.up; have := h.cnt; omega, h.tw, h.tv⟩
 show v.tape (v.drawn + 1 + i) = w.tape (w.drawn + 1 + i)
 rw [show v.drawn + 1 + i = v.drawn + (1 + i) by omega, show w.drawn + 1 + i = w.drawn + (1 + i) by omega]
 exact h.fut _ (by dsimp only at hi; omega)
theorem yaa.choose {α : Type} {Esc : α → Prop} {q : Question} {k : Nat → Sem α} (hk : ∀ n, yaa P Q X Esc (k n)) : yaa P Q X Esc (Sem.choose q k) := by
 intro L w v es h
 simp only [Sem.run, Sem.runT]
 split
 ·exact hk _ _ _ _ _ h
 ·by_cases hL : v.drawn < L.lim
  ·have e : v.tape v.drawn = w.tape w.drawn := by simpa using h.fut 0 (by omega)
   rw [e]
   refine ybd.step (pre := #[]) (w1 := { w with drawn := w.drawn + 1 }) ?_ (.of_heap rfl) (by simp)
   simp only [Array.append_empty]
   exact hk _ _ _ _ _ h.drew
  ·exact ybd.late (Nat.lt_of_lt_of_le (by show L.lim < v.drawn + 1; omega) (yeb Q _ { v with drawn := v.drawn + 1 }))
theorem yaa.program {α : Type} {Esc : α → Prop} {k : Program → Sem α} (e : k P = k Q) (hk : yaa P Q X Esc (k Q)) : yaa P Q X Esc (Sem.program k) := by
 intro L w v es h
 simp only [Sem.run, Sem.runT, e]
 exact hk _ _ _ _ h
theorem yaa.mark {α : Type} {Esc : α → Prop} {m : Mark} {k : Sem α} (hm : yju m = true) (hk : yaa P Q X Esc k) : yaa P Q X Esc (Sem.mark m k) := by
 intro L w v es h
 simp only [Sem.run, Sem.runT]
 exact (hk _ _ _ _ h).push (.refl X w) hm
theorem yaa.frozen {α : Type} {Esc : α → Prop} {a : Addr} {k : Bool → Sem α} (hk : ∀ b, yaa P Q X Esc (k b)) : yaa P Q X Esc (Sem.frozen a k) := by
 intro L w v es h
 simp only [Sem.run, Sem.runT, h.frozen a]
 exact hk _ _ _ _ _ h
theorem Rel.shapeN {w v : World} (h : Rel X L w v) {r : Nat} (hX : ¬ X r) : v.shape? r = w.shape? r := by
 unfold World.shape?
 rw [h.same r hX]
 cases w.heap[r]? with
 |none => rfl
 |some o => cases o <;> rfl
theorem Rel.shape {w v : World} (h : Rel X L w v) (r : Nat) : v.shape? r = w.shape? r ∨ (X r ∧ ∃ t n, w.shape? r = some (t, n) ∧ v.shape? r = some (t, 0)) := by
 by_cases hX : X r
 ·obtain ⟨c, t, hw, hv⟩ := h.bare r hX
  exact .inr ⟨hX, t, c.size, by simp [World.shape?, hw], by simp [World.shape?, hv]⟩
 ·exact .inl (h.shapeN hX)
theorem yaa.shape {α : Type} {Esc : α → Prop} {r : Nat} {k : Option (TypeId × Nat) → Sem α} (e : ∀ t n m, k (some (t, n)) = k (some (t, m))) (hk : ∀ x, yaa P Q X Esc (k x)) : yaa P Q X Esc (Sem.shape r k) := by
 intro L w v es h
 simp only [Sem.run, Sem.runT]
 rcases h.shape r with q | ⟨_, t, n, hw, hv⟩
 ·rw [q]; exact hk _ _ _ _ _ h
 ·rw [hw, hv, e t n 0]; exact hk _ _ _ _ _ h
theorem yaa.sys {α : Type} {Esc : α → Prop} {c : Sys} {k : SysRet → Sem α} (hc : ∀ os, ∃ x, Kernel.perform c os = .done x) (hk : ∀ n, yaa P Q X Esc (k n)) : yaa P Q X Esc (Sem.sys c k) := by
 intro L w v es h
 obtain ⟨⟨r, o⟩, e⟩ := hc w.os
 have h1 : (v.sys c).1 = (w.sys c).1 ∧ Rel X L (w.sys c).2 (v.sys c).2 ∧ (w.sys c).2.heap = w.heap := by
  unfold World.sys
  rw [h.os, e]
  unfold World.ask
  cases r <;> first | exact ⟨rfl, h, rfl⟩ | exact ⟨rfl, ⟨h.size, h.same, h.bare, rfl, h.output, h.fut, h.cnt, h.tw, h.tv⟩, rfl⟩
 simp only [Sem.run, Sem.runT, h1.1]
 exact (hk _ _ _ _ _ h1.2.1).push (.of_heap h1.2.2) trivial
theorem yaa.dead {α : Type} {Esc : α → Prop} {s : Sem α} (h : ∀ v, ∃ x v', s.run Q v = .halt x v' ∧ yie x = true) : yaa P Q X Esc s := by
 intro L w v es hR
 obtain ⟨x, v', e, hx⟩ := h v
 rw [e]
 exact .halt hx
theorem Rel.freeze {w v : World} (h : Rel X L w v) {a : Addr} (hb : ¬ X a.block) (n : Nat) : Rel X L (w.freeze a n) (v.freeze a n) := by
 unfold World.freeze
 split
 ·exact h
 refine ⟨by simp [h.size], fun c hc => ?_, fun c hc => ?_, h.os, h.output, h.fut, h.cnt, h.tw, h.tv⟩
 ·simp only [Array.getElem?_modify]
  split
  ·rw [h.same c hc]
   cases w.heap[c]? with
   |none => rfl
   |some o => cases o <;> rfl
  ·exact h.same c hc
 ·have : a.block ≠ c := fun e => hb (e ▸ hc)
  simpa only [Array.getElem?_modify, this, if_false] using h.bare c hc
end Go.Sim

namespace Go.Sim
variable {P Q : Program} {X : Nat → Prop}
theorem zeu {α β : Type} {Esc : β → Prop} {a : α} {f : α → Sem β} (h : yaa P Q X Esc (f a)) : yaa P Q X Esc (Pure.pure a >>= f) := h
theorem zdc (hT : P.toTables = Q.toTables) {Esc : Value → Prop} (a : Addr) (m : Mode) : yaa P Q X Esc (load a m) := yaa.load hT fun _ => yaa.pure _
theorem zft (hT : P.toTables = Q.toTables) {Esc : Unit → Prop} (a : Addr) (v : Value) (m : Mode) : yaa P Q X Esc (store a v m) := yaa.store hT (yaa.pure _)
theorem zbd {Esc : Nat → Prop} (q : Question) : yaa P Q X Esc (choose q) := yaa.choose fun _ => yaa.pure _
theorem zcp {Esc : Bool → Prop} (a : Addr) : yaa P Q X Esc (frozen a) := yaa.frozen fun _ => yaa.pure _
theorem zet {α : Type} {Esc : α → Prop} {f : Program → Sem α} (e : f P = f Q) (h : yaa P Q X Esc (f Q)) : yaa P Q X Esc (program >>= f) := yaa.program (k := f) e h
variable (hT : P.toTables = Q.toTables)
theorem yff (hT : P.toTables = Q.toTables) (t : TypeId) : P.underlying t = Q.underlying t := by unfold Program.underlying; simp only [hT]
theorem zgd (hT : P.toTables = Q.toTables) {Esc : TypeInfo → Prop} (t : TypeId) : yaa P Q X Esc (typeInfo t) := by
 refine zet ?_ ?_
 ·simp only [hT]
 ·split
  ·exact yaa.pure _
  ·exact yaa.halt _
theorem zgi (hT : P.toTables = Q.toTables) {Esc : TypeDesc → Prop} (t : TypeId) : yaa P Q X Esc (underlying t) := by
 refine zet ?_ ?_
 ·simp only [yff hT]
 ·split
  ·exact yaa.pure _
  ·exact yaa.halt _
theorem zgt (hT : P.toTables = Q.toTables) {Esc : Value → Prop} (t : TypeId) : yaa P Q X Esc (zeroValue t) := by
 refine yaa.bind (zgd hT t) fun i => ?_
 split
 ·exact yaa.pure _
 ·exact yaa.halt _
theorem zfl (hT : P.toTables = Q.toTables) {Esc : Nat → Prop} (t : TypeId) : yaa P Q X Esc (sizeOf t) := yaa.bind (zgd hT t) fun _ => yaa.pure _
theorem zcy (hT : P.toTables = Q.toTables) {Esc : Bool → Prop} (t : TypeId) : yaa P Q X Esc (isAgg t) := by
 refine yaa.bind (zgi hT t) fun i => ?_
 split <;> exact yaa.pure _
theorem zal {Esc : IntKind × Int → Prop} (v : Value) : yaa P Q X Esc (asIntOf v) := by
 unfold asIntOf
 split <;> first | exact yaa.pure _ | exact yaa.halt _
theorem zak {Esc : Int → Prop} (v : Value) : yaa P Q X Esc (asInt v) := yaa.bind (zal v) fun _ => yaa.pure _
theorem zaj {Esc : Bool → Prop} (v : Value) : yaa P Q X Esc (asBool v) := by
 unfold asBool
 split <;> first | exact yaa.pure _ | exact yaa.halt _
theorem zai {Esc : Array Value → Prop} (v : Value) : yaa P Q X Esc (asAgg v) := by
 unfold asAgg
 split <;> first | exact yaa.pure _ | exact yaa.halt _
theorem zec {Esc : Nat → Prop} (o : Obj) (ho : o.odd = false) : yaa P Q X Esc (newObj o) := yaa.new ho fun _ => yaa.pure _
theorem zed {Esc : Addr → Prop} (t : TypeId) (c : Array Value) : yaa P Q X Esc (newRow t c) := yaa.bind (zec _ rfl) fun _ => yaa.pure _
theorem zef {Esc : Addr → Prop} (t : TypeId) (v : Value) : yaa P Q X Esc (newVar t v) := zed _ _
theorem zbp (hT : P.toTables = Q.toTables) {Esc : TypeId → Prop} (t : TypeId) : yaa P Q X Esc (elemOf t) := by
 refine yaa.bind (zgi hT t) fun i => ?_
 split <;> first | exact yaa.pure _ | exact yaa.halt _
theorem zdg (hT : P.toTables = Q.toTables) {Esc : Array Value → Prop} (a : Addr) (n : Nat) : ∀ i acc, yaa P Q X Esc (loadCellsFrom a i n acc) := by
 induction n with
 |zero => exact fun i acc => yaa.pure _
 |succ n ih => exact fun i acc => yaa.bind (zdc hT _ _) fun v => ih _ _
theorem zdf (hT : P.toTables = Q.toTables) {Esc : Array Value → Prop} (a : Addr) (n : Nat) : yaa P Q X Esc (loadCells a n) := zdg hT _ _ _ _
theorem zfv (hT : P.toTables = Q.toTables) {Esc : Unit → Prop} (a : Addr) (l : List Value) : ∀ i, yaa P Q X Esc (storeCells a l i) := by
 induction l with
 |nil => exact fun i => yaa.pure _
 |cons v l ih => exact fun i => yaa.bind (zft hT _ _ _) fun _ => ih _
theorem zdh (hT : P.toTables = Q.toTables) {Esc : Value → Prop} (t : TypeId) (a : Addr) : yaa P Q X Esc (loadVar t a) := by
 refine yaa.bind (zcy hT t) fun b => ?_
 split
 ·exact yaa.bind (zfl hT t) fun n => yaa.bind (zdf hT _ _) fun _ => yaa.pure _
 ·exact zdc hT _ _
theorem zfw (hT : P.toTables = Q.toTables) {Esc : Unit → Prop} (t : TypeId) (a : Addr) (v : Value) : yaa P Q X Esc (storeVar t a v) := by
 refine yaa.bind (zfl hT t) fun n => ?_
 split
 ·exact yaa.bind (yaa.halt _) fun _ => zfv hT _ _ _
 ·exact zfv hT _ _ _
theorem zep (hT : P.toTables = Q.toTables) {Esc : Value → Prop} (t : TypeId) (cs : Array Value) (off : Nat) : yaa P Q X Esc (part t cs off) := by
 refine yaa.bind (zcy hT t) fun b => ?_
 split
 ·exact yaa.bind (zfl hT t) fun n => yaa.pure _
 ·split <;> first | exact yaa.pure _ | exact yaa.halt _
theorem zgf (hT : P.toTables = Q.toTables) {Esc : String → Prop} (t : TypeId) : yaa P Q X Esc (typeStr t) := by
 refine yaa.bind (zgd hT t) fun b => ?_
 dsimp only
 split <;> first | exact yaa.pure _ | exact yaa.halt _
theorem zfc (hT : P.toTables = Q.toTables) {α : Type} {Esc : α → Prop} (e : RuntimeError) : yaa P Q X Esc (runtimePanic e : Sem α) := by
 unfold runtimePanic
 refine zet ?_ ?_
 ·cases e <;> simp only [hT, typeHandle]
 ·cases e <;> dsimp only
  all_goals first
   |exact yaa.halt _
   |exact yaa.bind (zbp hT _) fun _ => yaa.bind (zef _ _) fun _ => yaa.halt _
theorem zaq (hT : P.toTables = Q.toTables) {α : Type} {Esc : α → Prop} (k : IntKind) (x y : Int) (c : BoundsCode) : yaa P Q X Esc (boundsPanic k x y c : Sem α) := by
 unfold boundsPanic
 dsimp only
 split
 ·exact yaa.bind (yaa.bind (zbd _) fun _ => yaa.pure _) fun _ => zfc hT _
 ·exact yaa.bind (yaa.pure _) fun _ => zfc hT _
theorem zah (hT : P.toTables = Q.toTables) {Esc : Addr → Prop} (v : Value) : yaa P Q X Esc (asAddr v) := by
 unfold asAddr
 split
 ·exact yaa.pure _
 ·exact zfc hT _
 ·exact yaa.halt _
end Go.Sim

namespace Go.Sim
variable {P Q : Program} {X : Nat → Prop}
variable (hT : P.toTables = Q.toTables)
theorem zga {Esc : Addr → Prop} (v : Value) : yaa P Q X Esc (Instr.sureAddr v) := by
 unfold Instr.sureAddr
 (repeat' first
  |exact yaa.pure _
  |exact yaa.halt _
  |with_reducible assumption
  |split
  |dsimp only)
theorem zfi {α : Type} {Esc : α → Prop} {r : Nat} {f : Option (TypeId × Nat) → Sem α} (e : ∀ t n m, f (some (t, n)) = f (some (t, m))) (hk : ∀ x, yaa P Q X Esc (f x)) : yaa P Q X Esc (shape r >>= f) := yaa.shape (k := f) e hk
theorem zcs {α : Type} {Esc : α → Prop} {r : Nat} {f : Obj → Sem α} (hd : ∀ o : Obj, o.odd = true → f o = f o.dull ∨ ∀ v, ∃ x v', (f o.dull).run Q v = .halt x v' ∧ yie x = true) (hk : ∀ o, yaa P Q X Esc (f o)) : yaa P Q X Esc (getObj r >>= f) := yaa.getObj (k := f) hd hk
theorem zem {Esc : Option (Addr × Bool) → Prop} (r : Nat) : yaa P Q X Esc (numberAt r) := by
 unfold numberAt
 refine zfi (fun _ _ _ => rfl) fun x => ?_
 split
 ·(repeat' first
  |exact yaa.pure _
  |with_reducible assumption
  |((with_reducible refine zcs ?_ (fun _ => ?_)); · (intro o ho; cases o <;> first | (cases ho; done) | exact .inl rfl | exact .inr fun v => ⟨_, _, rfl, (by rfl)⟩))
  |split
  |dsimp only)
 ·(repeat' first
  |exact yaa.pure _
  |with_reducible assumption
  |((with_reducible refine zcs ?_ (fun _ => ?_)); · (intro o ho; cases o <;> first | (cases ho; done) | exact .inl rfl | exact .inr fun v => ⟨_, _, rfl, (by rfl)⟩))
  |split
  |dsimp only)
theorem zgp {α : Type} {Esc : α → Prop} {r : Nat} {s k : Sem α} (hs : ∀ v, ∃ x v', s.run Q v = .halt x v' ∧ yie x = true) (hk : yaa P Q X Esc k) : yaa P Q X Esc (viewAt r >>= fun x => if x.isSome then s else k) := by
 show yaa P Q X Esc (Sem.shape r fun x => (if x.isSome then (return none : Sem (Option (Addr × TypeId))) else Sem.getObj r fun o => (match o with
   |.view a t => pure (some (a, t))
   |_ => pure none : Sem (Option (Addr × TypeId)))).bind fun x => if x.isSome then s else k)
 refine yaa.shape (fun _ _ _ => rfl) fun x => ?_
 cases x with
 |some x => exact hk
 |none =>
  refine yaa.getObj (k := fun o => ((match o with
   |.view a t => pure (some (a, t))
   |_ => pure none : Sem (Option (Addr × TypeId)))).bind fun x => if x.isSome then s else k) (fun o ho => ?_) fun o => ?_
  ·cases o <;> first | (cases ho; done) | exact .inl rfl | exact .inr hs
  ·cases o <;> first | exact hk | exact yaa.dead hs
theorem zek {Esc : Unit → Prop} (a : Addr) : yaa P Q X Esc (noView a) :=
 zgp (fun v => ⟨_, _, rfl, (by rfl)⟩) (yaa.pure ())
theorem zav (hT : P.toTables = Q.toTables) {Esc : Nat → Prop} (a : Addr) : yaa P Q X Esc (byteOf a) := by
 unfold byteOf
 split
 ·(repeat' first
  |exact yaa.pure _
  |exact yaa.halt _
  |with_reducible first | assumption | apply zek
  |refine yaa.bind ?_ (fun _ => ?_)
  |split
  |dsimp only)
 ·refine zet ?_ ?_
  ·simp only [ycr hT, yfk hT, ycc hT, yee hT]
  ·refine yaa.bind (zek _) fun _ => ?_
   refine zfi (fun _ _ _ => rfl) fun x => ?_
   (repeat' first
  |exact yaa.pure _
  |exact yaa.halt _
  |with_reducible first | assumption | apply zek
  |refine yaa.bind ?_ (fun _ => ?_)
  |split
  |dsimp only)
theorem zeq (hT : P.toTables = Q.toTables) {Esc : Addr → Prop} (a : Addr) (n m : Nat) : yaa P Q X Esc (partAt a n m) := by
 unfold partAt
 (repeat' first
  |exact yaa.pure _
  |with_reducible first | assumption | apply zav
  |refine yaa.bind ?_ (fun _ => ?_)
  |split
  |dsimp only)
theorem zcb (hT : P.toTables = Q.toTables) {Esc : Addr → Prop} (a : Addr) (f : Field) : yaa P Q X Esc (fieldPlace a f) := by
 unfold fieldPlace
 (repeat' first
  |exact yaa.pure _
  |with_reducible first | assumption | apply zfl | apply zeq
  |refine yaa.bind ?_ (fun _ => ?_)
  |split
  |dsimp only)
theorem zdd (hT : P.toTables = Q.toTables) {Esc : Value → Prop} (t : TypeId) (v : Value) : yaa P Q X Esc (Instr.loadAt t v) := by
 unfold Instr.loadAt
 (repeat' first
  |with_reducible first | assumption | apply zdh | apply zga
  |refine yaa.bind ?_ (fun _ => ?_)
  |split
  |dsimp only)
theorem zfu (hT : P.toTables = Q.toTables) {Esc : Unit → Prop} (t : TypeId) (v x : Value) : yaa P Q X Esc (Instr.storeAt t v x) := by
 unfold Instr.storeAt
 (repeat' first
  |with_reducible first | assumption | apply zfw | apply zga
  |refine yaa.bind ?_ (fun _ => ?_)
  |split
  |dsimp only)
theorem zca (hT : P.toTables = Q.toTables) {Esc : Value → Prop} (t : TypeId) (v : Value) (f : Nat) : yaa P Q X Esc (Instr.fieldAt t v f) := by
 unfold Instr.fieldAt
 (repeat' first
  |exact yaa.pure _
  |exact yaa.halt _
  |with_reducible first | assumption | apply zgi | apply zga | apply zcb
  |refine yaa.bind ?_ (fun _ => ?_)
  |split
  |dsimp only)
theorem zcu (hT : P.toTables = Q.toTables) {Esc : Value → Prop} (t : TypeId) (v x : Value) : yaa P Q X Esc (Instr.indexAt t v x) := by
 unfold Instr.indexAt
 (repeat' first
  |exact yaa.pure _
  |exact yaa.halt _
  |with_reducible first | assumption | apply zgi | apply zfl | apply zal | apply zaq | apply zga | refine zeu ?_
  |refine yaa.bind ?_ (fun _ => ?_)
  |split
  |dsimp only)
theorem zfo (hT : P.toTables = Q.toTables) {Esc : Nat → Prop} (v : Value) (y : Nat) (c : BoundsCode) : yaa P Q X Esc (Instr.sliceBound v y c) := by
 unfold Instr.sliceBound
 (repeat' first
  |exact yaa.pure _
  |with_reducible first | assumption | apply zal | apply zaq
  |refine yaa.bind ?_ (fun _ => ?_)
  |split
  |dsimp only)
theorem zfp (hT : P.toTables = Q.toTables) {Esc : Nat × Nat × Nat → Prop} (b : Bool) (l c : Nat) (lo hi mx : Option Value) : yaa P Q X Esc (Instr.sliceBounds b l c lo hi mx) := by
 unfold Instr.sliceBounds
 (repeat' first
  |exact yaa.pure _
  |exact yaa.halt _
  |with_reducible first | assumption | apply zfo | refine zeu ?_
  |refine yaa.bind ?_ (fun _ => ?_)
  |split
  |dsimp only)
theorem zfm (hT : P.toTables = Q.toTables) {Esc : Value → Prop} (t : TypeId) (x : Value) (lo hi mx : Option Value) : yaa P Q X Esc (Instr.slice t x lo hi mx) := by
 unfold Instr.slice
 (repeat' first
  |exact yaa.pure _
  |exact yaa.halt _
  |with_reducible first | assumption | apply zgi | apply zfl | apply zah | apply zfp
  |refine yaa.bind ?_ (fun _ => ?_)
  |split
  |dsimp only)
theorem zfn (hT : P.toTables = Q.toTables) {Esc : Value → Prop} (t : TypeId) (x : Value) (lo hi mx : Option Value) : yaa P Q X Esc (Instr.sliceAt t x lo hi mx) := by
 unfold Instr.sliceAt
 (repeat' first
  |exact yaa.pure _
  |with_reducible first | assumption | apply zgi | apply zfl | apply zga | apply zfp | apply zfm
  |refine yaa.bind ?_ (fun _ => ?_)
  |split
  |dsimp only)
theorem zad (hT : P.toTables = Q.toTables) {Esc : Value → Prop} (t : TypeId) (b : Bool) (x : Value) : yaa P Q X Esc (Instr.alloc t b x) := by
 unfold Instr.alloc
 (repeat' first
  |exact yaa.pure _
  |with_reducible first | assumption | apply zgt | apply zfw | apply zef
  |refine yaa.bind ?_ (fun _ => ?_)
  |split
  |dsimp only)
theorem zar {Esc : Value → Prop} (t : TypeId) (x : Value) : yaa P Q X Esc (Instr.box t x) := by
 unfold Instr.box
 (repeat' first
  |exact yaa.pure _
  |with_reducible first | assumption | apply zef
  |refine yaa.bind ?_ (fun _ => ?_)
  |split
  |dsimp only)
theorem zat (hT : P.toTables = Q.toTables) {Esc : Value → Prop} (t : TypeId) (n : Nat) (x : Array (Nat × Value)) : yaa P Q X Esc (Instr.buildSlice t n x) := by
 unfold Instr.buildSlice
 (repeat' first
  |exact yaa.pure _
  |exact yaa.halt _
  |with_reducible first | assumption | apply zgi | apply zgt | apply zfl | apply zed | refine zeu ?_
  |refine yaa.bind ?_ (fun _ => ?_)
  |split
  |dsimp only)
theorem zby {Esc : Value → Prop} (x : Value) (n : Nat) : yaa P Q X Esc (Instr.extract x n) := by
 unfold Instr.extract
 (repeat' first
  |exact yaa.pure _
  |exact yaa.halt _
  |with_reducible assumption
  |split
  |dsimp only)
theorem zbz (hT : P.toTables = Q.toTables) {Esc : Value → Prop} (t : TypeId) (x : Value) (n : Nat) : yaa P Q X Esc (Instr.field t x n) := by
 unfold Instr.field
 (repeat' first
  |exact yaa.halt _
  |with_reducible first | assumption | apply zgi | apply zai | apply zep
  |refine yaa.bind ?_ (fun _ => ?_)
  |split
  |dsimp only)
theorem zct (hT : P.toTables = Q.toTables) {Esc : Value → Prop} (t : TypeId) (x y : Value) : yaa P Q X Esc (Instr.index t x y) := by
 unfold Instr.index
 (repeat' first
  |exact yaa.pure _
  |exact yaa.halt _
  |with_reducible first | assumption | apply zgi | apply zfl | apply zal | apply zep | apply zaq
  |refine yaa.bind ?_ (fun _ => ?_)
  |split
  |dsimp only)
theorem zdj {Esc : Value → Prop} (f : Fn) (x y : Array Value) : yaa P Q X Esc (Instr.makeFunc f x y) := yaa.pure _
theorem zdk (hT : P.toTables = Q.toTables) {Esc : Value → Prop} (t : TypeId) (x : Value) : yaa P Q X Esc (Instr.makeInterface t x) := by
 unfold Instr.makeInterface
 (repeat' first
  |exact yaa.pure _
  |exact yaa.halt _
  |with_reducible first | assumption | apply zgi
  |refine yaa.bind ?_ (fun _ => ?_)
  |split
  |dsimp only)
theorem zan {Esc : Unit → Prop} (n : Nat) : yaa P Q X Esc (askRoom n) := by
 unfold askRoom
 split
 ·exact yaa.mark rfl (yaa.pure _)
 ·exact yaa.pure _
theorem zdm (hT : P.toTables = Q.toTables) {Esc : Value → Prop} (t : TypeId) (x y : Value) : yaa P Q X Esc (Instr.makeSlice t x y) := by
 unfold Instr.makeSlice
 (repeat' first
  |exact yaa.pure _
  |exact yaa.halt _
  |with_reducible first | assumption | apply zgd | apply zgi | apply zgt | apply zfl | apply zak | apply zfc | apply zed | apply zbd | apply zan | refine zeu ?_
  |refine yaa.bind ?_ (fun _ => ?_)
  |split
  |dsimp only)
theorem zeb {Esc : Nat → Prop} (es : Array MapEntry) (c : Nat) : yaa P Q X Esc (newObj (.map es c)) := zec _ rfl
theorem zdl (hT : P.toTables = Q.toTables) {Esc : Value → Prop} (t : TypeId) (r : Option Value) : yaa P Q X Esc (Instr.makeMap t r) := by
 unfold Instr.makeMap
 (repeat' first
  |exact yaa.pure _
  |exact yaa.halt _
  |with_reducible first | assumption | apply zgi | apply zak | apply zeb
  |refine yaa.bind ?_ (fun _ => ?_)
  |split
  |dsimp only)
theorem zgc (hT : P.toTables = Q.toTables) {Esc : Value → Prop} (x : Value) (t u : TypeId) (b : Bool) : yaa P Q X Esc (Instr.typeAssert x t u b) := by
 unfold Instr.typeAssert
 (repeat' first
  |exact yaa.pure _
  |exact yaa.halt _
  |with_reducible first | assumption | apply zgd | apply zgi | apply zgt | apply zfc
  |refine yaa.bind ?_ (fun _ => ?_)
  |split
  |dsimp only)
end Go.Sim

namespace Go.Sim
variable {P Q : Program} {X : Nat → Prop}
variable (hT : P.toTables = Q.toTables)
theorem zcn {α β : Type} {Esc : β → Prop} {f : α → β → Sem (ForInStep β)} (hf : ∀ a b, Sim P Q X (f a b)) (l : List α) : ∀ i, yaa P Q X Esc (forIn l i f) := by
 induction l with
 |nil => intro i; rw [List.forIn_nil]; exact yaa.pure _
 |cons a l ih =>
  intro i
  rw [List.forIn_cons]
  refine yaa.bind (hf a i) fun x => ?_
  cases x with
  |done b => exact yaa.pure _
  |yield b => exact ih b
theorem zcm {α β : Type} {Esc : β → Prop} {f : α → β → Sem (ForInStep β)} (hf : ∀ a b, Sim P Q X (f a b)) {l : Array α} (i : β) : yaa P Q X Esc (forIn l i f) := by
 rw [← Array.forIn_toList]; exact zcn hf _ _
theorem zco {β : Type} {Esc : β → Prop} {f : Nat → β → Sem (ForInStep β)} (hf : ∀ a b, Sim P Q X (f a b)) {r : Std.Legacy.Range} (i : β) : yaa P Q X Esc (forIn r i f) := by
 rw [Std.Legacy.Range.forIn_eq_forIn_range']; exact zcn hf _ _
theorem zdp {α β : Type} {Esc : List β → Prop} {f : α → Sem β} (hf : ∀ a, Sim P Q X (f a)) (l : List α) : yaa P Q X Esc (l.mapM f) := by
 have h : ∀ (l : List α) (acc : List β), yaa P Q X Esc (List.mapM.loop f l acc) := by
  intro l
  induction l with
  |nil => intro acc; exact yaa.pure _
  |cons a l ih => intro acc; exact yaa.bind (hf a) fun b => ih _
 exact h l []
theorem yaa.of {α : Type} {Esc : α → Prop} {s : Sem α} (h : Sim P Q X s) : yaa P Q X Esc s := by
 intro L w u es hR hL
 have := h L w u es hR hL
 revert this
 generalize s.run Q u = r
 cases r with
 |ok a v' => exact fun q => .inr (q.resolve_left id)
 |halt y v' => exact fun q => q
theorem zbc (hT : P.toTables = Q.toTables) {Esc : Unit → Prop} (b : Bool) (n : Nat) : ∀ t v, yaa P Q X Esc (Instr.checkKey b n t v) := by
 have h : ∀ t v, Sim P Q X (Instr.checkKey b n t v) := by
  induction n with
  |zero => exact fun t v => yaa.halt _
  |succ n ih =>
   intro t v
   unfold Instr.checkKey
   refine yaa.bind (zgi hT _) (fun _ => ?_)
   split
   ·dsimp only
    refine yaa.bind (zgd hT _) (fun _ => ?_)
    split
    ·split
     ·exact yaa.bind (zfc hT _) fun _ => yaa.bind (zgf hT _) fun _ => yaa.bind (zfc hT _) fun _ => ih _ _
     ·exact yaa.bind (zgf hT _) fun _ => yaa.bind (zfc hT _) fun _ => ih _ _
    ·exact ih _ _
   ·refine yaa.bind (zco (fun _ _ => ?_) _) fun _ => yaa.pure _
    exact yaa.bind (zfl hT _) fun _ => yaa.bind (zep hT _ _ _) fun _ => yaa.bind (ih _ _) fun _ => yaa.pure _
   ·refine yaa.bind (zcm (fun _ _ => ?_) _) fun _ => yaa.pure _
    split
    ·exact yaa.bind (zep hT _ _ _) fun _ => yaa.bind (ih _ _) fun _ => yaa.pure _
    ·exact yaa.pure _
   all_goals first | exact yaa.pure _ | exact yaa.halt _
 exact fun t v => yaa.of (h t v)
theorem zao {Esc : Addr × Bool → Prop} (a : Addr) : yaa P Q X Esc (behindNumber a) := by
 unfold behindNumber
 (repeat' first
  |exact yaa.pure _
  |with_reducible first | assumption | apply zem
  |refine yaa.bind ?_ (fun _ => ?_)
  |split
  |dsimp only)
def yug (w : World) (a : Addr) : Bool := if w.frozen? a then true else match w.shape? a.block with | some (_, n) => w.frozen? { block := a.block, off := n } | none => false
theorem yim (P : Program) (a : Addr) (w : World) (es : Array Event) : (stringish a).runT P w es = (.ok (yug w a) w, es) := by
 show Sem.runT P (Sem.frozen a fun b => _) w es = _
 simp only [Sem.runT, yug]
 cases w.frozen? a
 ·show Sem.runT P (Sem.shape a.block fun x => _) w es = _
  simp only [Sem.runT]
  cases w.shape? a.block with
  |none => rfl
  |some x => rfl
 ·rfl
theorem yjz (P : Program) (a : Addr) (w : World) : (stringish a).run P w = .ok (yug w a) w := by
 show Sem.run P (Sem.frozen a fun b => _) w = _
 simp only [Sem.run, yug]
 cases w.frozen? a
 ·show Sem.run P (Sem.shape a.block fun x => _) w = _
  simp only [Sem.run]
  cases w.shape? a.block with
  |none => rfl
  |some x => rfl
 ·rfl
theorem Rel.str {L : Lim} {w v : World} (h : Rel X L w v) (a : Addr) : yug v a = yug w a := by
 by_cases hX : X a.block
 ·obtain ⟨c, t, hw, hv⟩ := h.bare _ hX
  simp [yug, World.frozen?, World.shape?, hw, hv]
 ·have e : v.shape? a.block = w.shape? a.block := h.shapeN hX
  unfold yug
  rw [h.frozen, e]
  cases w.shape? a.block with
  |none => rfl
  |some x => simp only [h.frozen]
theorem Rel.strX {L : Lim} {w v : World} (h : Rel X L w v) {a : Addr} (hX : X a.block) : yug w a = false := by
 obtain ⟨c, t, hw, hv⟩ := h.bare _ hX
 simp [yug, World.frozen?, World.shape?, hw]
def oneV (w : World) (a b : Addr) : Bool := (yug w a && yug w b) || (yug w a && ((w.shape? a.block) matches some (_, 0))) || (yug w b && ((w.shape? b.block) matches some (_, 0)))
theorem ytn (P : Program) (a b : Addr) (w : World) : (mayBeOne a b).run P w = .ok (oneV w a b) w := by
 show Sem.run P ((stringish a).bind fun sa => (stringish b).bind fun sb => _) w = _
 rw [run_bind, yjz]
 dsimp only
 rw [run_bind, yjz]
 rfl
theorem yqy (P : Program) (a b : Addr) (w : World) (es : Array Event) : (mayBeOne a b).runT P w es = (.ok (oneV w a b) w, es) := by
 show Sem.runT P ((stringish a).bind fun sa => (stringish b).bind fun sb => _) w es = _
 rw [ydz, yim]
 dsimp only
 rw [ydz, yim]
 rfl
theorem zdt {Esc : Bool → Prop} (a b : Addr) : yaa P Q X Esc (mayBeOne a b) := by
 intro L w v es h
 rw [ytn, yqy]
 have e : oneV v a b = oneV w a b := by
  unfold oneV
  rw [h.str, h.str]
  have k : ∀ c : Addr, (yug w c && ((v.shape? c.block) matches some (_, 0))) = (yug w c && ((w.shape? c.block) matches some (_, 0))) := by
   intro c
   by_cases hX : X c.block
   ·rw [h.strX hX]; rfl
   ·have : v.shape? c.block = w.shape? c.block := h.shapeN hX
    rw [this]
  rw [k a, k b]
 exact fun _ => .inr ⟨w, #[], by rw [e]; simp, h, .refl X w, by simp⟩
theorem zfd {Esc : Bool → Prop} (a b : Addr) : yaa P Q X Esc (sameAddr a b) := by
 unfold sameAddr
 (repeat' first
  |exact yaa.pure _
  |exact yaa.halt _
  |with_reducible first | assumption | apply zbd | apply zek | apply zcp | apply zdt
  |refine yaa.bind ?_ (fun _ => ?_)
  |split
  |dsimp only)
theorem zfe {Esc : Bool → Prop} (a b : Option Addr) : yaa P Q X Esc (samePointer a b) := by
 unfold samePointer
 (repeat' first
  |exact yaa.pure _
  |with_reducible first | assumption | apply zfd
  |split
  |dsimp only)
theorem uid_eq (hT : P.toTables = Q.toTables) (t : TypeId) : P.underlyingId t = Q.underlyingId t := by unfold Program.underlyingId; rw [hT]
theorem ypu (hT : P.toTables = Q.toTables) (n : Nat) : ∀ t u, P.alikeButTags n t u = Q.alikeButTags n t u := by
 induction n with
 |zero => intro t u; rfl
 |succ n ih =>
  intro t u
  unfold Program.alikeButTags
  simp only [hT, ih]
theorem own_eq (hT : P.toTables = Q.toTables) (c : String × TypeId) : P.ownRow c = Q.ownRow c := by unfold Program.ownRow; simp only [hT, yff hT]
theorem packed_eq (hT : P.toTables = Q.toTables) (t : TypeId) : P.packed t = Q.packed t := by
 unfold Program.packed Program.packedAs
 simp only [hT, own_eq hT, yff hT, ypu hT, uid_eq hT, ycc hT]
theorem hp_eq (hT : P.toTables = Q.toTables) (d : Nat) : ∀ t, P.holdsPacked d t = Q.holdsPacked d t := by
 induction d with
 |zero => intro t; rfl
 |succ d ih =>
  intro t
  unfold Program.holdsPacked
  simp only [packed_eq hT, yff hT, ih]
theorem sh_eq (hT : P.toTables = Q.toTables) (t : TypeId) : P.stoodInHeld t = Q.stoodInHeld t := by
 unfold Program.stoodInHeld Program.stoodInAs
 simp only [hT, yff hT, ypu hT, uid_eq hT, ycc hT]
theorem eg_eq (hT : P.toTables = Q.toTables) (d : Nat) : ∀ t, P.eqGuardType d t = Q.eqGuardType d t := by
 induction d with
 |zero => intro t; rfl
 |succ d ih =>
  intro t
  unfold Program.eqGuardType
  simp only [yff hT, ih]
theorem zbv (hT : P.toTables = Q.toTables) (n : Nat) : ∀ t x y, Sim P Q X (Op.equalIn n t x y) := by
 induction n with
 |zero => exact fun t x y => yaa.halt _
 |succ n ih =>
  intro t x y
  unfold Op.equalIn
  refine yaa.bind (zgi hT _) (fun _ => ?_)
  split
  case h_5 =>
   refine yaa.bind (zao _) fun _ => yaa.bind (zao _) fun _ => ?_
   dsimp only
   split
   ·refine zet (by simp only [hT]) ?_
    (repeat' first
  |exact yaa.pure _
  |exact yaa.halt _
  |with_reducible first | assumption | apply ih | apply zgd | apply zgi | apply zfl | apply zfc | apply zep | apply zgf | apply zbd | apply zav | apply zao | apply zfd | apply zfe
  |refine yaa.bind ?_ (fun _ => ?_)
  |refine zcm (fun _ _ => ?_) _
  |refine zco (fun _ _ => ?_) _
  |split
  |dsimp only)
   ·refine zet (by simp only [hT]) ?_
    (repeat' first
  |exact yaa.pure _
  |exact yaa.halt _
  |with_reducible first | assumption | apply ih | apply zgd | apply zgi | apply zfl | apply zfc | apply zep | apply zgf | apply zbd | apply zav | apply zao | apply zfd | apply zfe
  |refine yaa.bind ?_ (fun _ => ?_)
  |refine zcm (fun _ _ => ?_) _
  |refine zco (fun _ _ => ?_) _
  |split
  |dsimp only)
  case h_19 =>
   split
   ·exact yaa.pure _
   ·refine yaa.bind (zgd hT _) fun _ => ?_
    dsimp only
    split
    ·refine zet (by simp only [hp_eq hT]) ?_
     refine zet (by simp only [ycc hT]) ?_
     (repeat' first
  |exact yaa.pure _
  |exact yaa.halt _
  |with_reducible first | assumption | apply ih | apply zgd | apply zgi | apply zfl | apply zfc | apply zep | apply zgf | apply zbd | apply zav | apply zao | apply zfd | apply zfe
  |refine yaa.bind ?_ (fun _ => ?_)
  |refine zcm (fun _ _ => ?_) _
  |refine zco (fun _ _ => ?_) _
  |split
  |dsimp only)
    ·exact ih _ _ _
  case h_20 =>
   refine zet (by simp only [sh_eq hT]) ?_
   (repeat' first
  |exact yaa.pure _
  |exact yaa.halt _
  |with_reducible first | assumption | apply ih | apply zgd | apply zgi | apply zfl | apply zfc | apply zep | apply zgf | apply zbd | apply zav | apply zao | apply zfd | apply zfe
  |refine yaa.bind ?_ (fun _ => ?_)
  |refine zcm (fun _ _ => ?_) _
  |refine zco (fun _ _ => ?_) _
  |split
  |dsimp only)
  all_goals (repeat' first
  |exact yaa.pure _
  |exact yaa.halt _
  |with_reducible first | assumption | apply ih | apply zgd | apply zgi | apply zfl | apply zfc | apply zep | apply zgf | apply zbd | apply zav | apply zao | apply zfd | apply zfe
  |refine yaa.bind ?_ (fun _ => ?_)
  |refine zcm (fun _ _ => ?_) _
  |refine zco (fun _ _ => ?_) _
  |split
  |dsimp only)
end Go.Sim

namespace Go.Sim
variable {P Q : Program} {X : Nat → Prop}
variable (hT : P.toTables = Q.toTables)
theorem zbu (hT : P.toTables = Q.toTables) {Esc : Bool → Prop} (t : TypeId) (x y : Value) : yaa P Q X Esc (Op.equal t x y) := (zbv hT _ _ _ _).of
theorem zbt (hT : P.toTables = Q.toTables) (n : Nat) : ∀ t x y, Sim P Q X (Op.eqGuardIn n t x y) := by
 induction n with
 |zero => exact fun t x y => yaa.halt _
 |succ n ih =>
  intro t x y
  unfold Op.eqGuardIn
  (repeat' first
  |exact yaa.pure _
  |exact yaa.halt _
  |with_reducible first | assumption | apply ih | apply zgi | apply zfl | apply zep
  |refine yaa.bind ?_ (fun _ => ?_)
  |refine zcm (fun _ _ => ?_) _
  |refine zco (fun _ _ => ?_) _
  |split
  |dsimp only)
theorem zbs (hT : P.toTables = Q.toTables) {Esc : Unit → Prop} (op : BinOp) (t : TypeId) (x y : Operand) (a b : Value) : yaa P Q X Esc (eqGuard op t x y a b) := by
 unfold eqGuard
 split <;> simp only [Bool.not_true, Bool.not_false, Bool.false_eq_true, if_false, if_true]
 case h_3 => exact yaa.pure _
 all_goals
  split
  ·(repeat' first
  |exact yaa.pure _
  |exact yaa.halt _
  |with_reducible first | assumption | apply zbt
  |refine yaa.bind ?_ (fun _ => ?_)
  |split
  |dsimp only)
  ·refine zet (by simp only [eg_eq hT]) ?_
   refine zet (by simp only [ycc hT]) ?_
   (repeat' first
  |exact yaa.pure _
  |exact yaa.halt _
  |with_reducible first | assumption | apply zbt
  |refine yaa.bind ?_ (fun _ => ?_)
  |split
  |dsimp only)
  ·exact yaa.pure _
theorem zcc (hT : P.toTables = Q.toTables) (t : TypeId) (k : Value) (l : List MapEntry) : ∀ i, Sim P Q X (Instr.findAsking t k l i) := by
 induction l with
 |nil => exact fun i => yaa.pure _
 |cons e l ih =>
  intro i
  unfold Instr.findAsking
  (repeat' first
  |exact yaa.pure _
  |with_reducible first | assumption | apply ih | apply zbu
  |refine yaa.bind ?_ (fun _ => ?_)
  |split
  |dsimp only)
theorem zcd (hT : P.toTables = Q.toTables) (t : TypeId) (k : Value) (l : List MapEntry) : Sim P Q X (Instr.findKey t k l) := by
 unfold Instr.findKey
 (repeat' first
  |exact yaa.pure _
  |with_reducible first | assumption | apply zgi | apply zcc
  |refine yaa.bind ?_ (fun _ => ?_)
  |split
  |dsimp only)
theorem zdi (hT : P.toTables = Q.toTables) {Esc : Value → Prop} (t : TypeId) (x y : Value) (b : Bool) : yaa P Q X Esc (Instr.lookup t x y b) := by
 unfold Instr.lookup
 (repeat' first
  |exact yaa.pure _
  |exact yaa.halt _
  |with_reducible first | assumption | apply zgi | apply zgt | apply zbc | apply zcd | refine zeu ?_
  |((with_reducible refine zcs ?_ (fun _ => ?_)); · (intro o ho; cases o <;> first | (cases ho; done) | exact .inl rfl | exact .inr fun v => ⟨_, _, rfl, (by rfl)⟩))
  |refine yaa.bind ?_ (fun _ => ?_)
  |split
  |dsimp only)
theorem zcz {Esc : Value → Prop} (x y : Value) : yaa P Q X Esc (Instr.keyThatStays x y) := by
 unfold Instr.keyThatStays
 (repeat' first
  |exact yaa.pure _
  |with_reducible first | assumption | apply zbd
  |refine yaa.bind ?_ (fun _ => ?_)
  |split
  |dsimp only)
theorem zfg {Esc : Unit → Prop} (r : Nat) (es : Array MapEntry) (c : Nat) : yaa P Q X Esc (setObj r (.map es c)) := yaa.setObj rfl (yaa.pure _)
theorem zdq (hT : P.toTables = Q.toTables) {Esc : Unit → Prop} (t : TypeId) (m k x : Value) : yaa P Q X Esc (Instr.mapUpdate t m k x) := by
 unfold Instr.mapUpdate
 (repeat' first
  |exact yaa.halt _
  |with_reducible first | assumption | apply zgi | apply zfc | apply zbc | apply zcd | apply zcz | apply zfg
  |((with_reducible refine zcs ?_ (fun _ => ?_)); · (intro o ho; cases o <;> first | (cases ho; done) | exact .inl rfl | exact .inr fun v => ⟨_, _, rfl, (by rfl)⟩))
  |refine yaa.bind ?_ (fun _ => ?_)
  |split
  |dsimp only)
theorem zdn (hT : P.toTables = Q.toTables) {Esc : Value → Prop} (t : TypeId) (m k : Value) : yaa P Q X Esc (Instr.mapEntry t m k) := by
 unfold Instr.mapEntry
 (repeat' first
  |exact yaa.pure _
  |exact yaa.halt _
  |with_reducible first | assumption | apply zgi | apply zgt | apply zfc | apply zbc | apply zcd | apply zcz | apply zfg
  |((with_reducible refine zcs ?_ (fun _ => ?_)); · (intro o ho; cases o <;> first | (cases ho; done) | exact .inl rfl | exact .inr fun v => ⟨_, _, rfl, (by rfl)⟩))
  |refine yaa.bind ?_ (fun _ => ?_)
  |split
  |dsimp only)
theorem zbr {Esc : Unit → Prop} (t : TypeId) (m k x : Value) : yaa P Q X Esc (Instr.entryStore t m k x) := by
 unfold Instr.entryStore
 (repeat' first
  |exact yaa.halt _
  |with_reducible first | assumption | apply zak | apply zfg
  |((with_reducible refine zcs ?_ (fun _ => ?_)); · (intro o ho; cases o <;> first | (cases ho; done) | exact .inl rfl | exact .inr fun v => ⟨_, _, rfl, (by rfl)⟩))
  |refine yaa.bind ?_ (fun _ => ?_)
  |split
  |dsimp only)
theorem zea {Esc : Nat → Prop} (a b c d) : yaa P Q X Esc (newObj (.mapIter a b c d)) := zec _ rfl
theorem zee {Esc : Nat → Prop} (a b) : yaa P Q X Esc (newObj (.stringIter a b)) := zec _ rfl
theorem zff {Esc : Unit → Prop} (r : Nat) (a b c d) : yaa P Q X Esc (setObj r (.mapIter a b c d)) := yaa.setObj rfl (yaa.pure _)
theorem zfh {Esc : Unit → Prop} (r : Nat) (a b) : yaa P Q X Esc (setObj r (.stringIter a b)) := yaa.setObj rfl (yaa.pure _)
theorem zeg (hT : P.toTables = Q.toTables) {Esc : Value → Prop} (x : Value) (b : Bool) (t : TypeId) : yaa P Q X Esc (Instr.next x b t) := by
 unfold Instr.next
 (repeat' first
  |exact yaa.pure _
  |exact yaa.halt _
  |with_reducible first | assumption | apply zbd | apply zff | apply zfh
  |((with_reducible refine zcs ?_ (fun _ => ?_)); · (intro o ho; cases o <;> first | (cases ho; done) | exact .inl rfl | exact .inr fun v => ⟨_, _, rfl, (by rfl)⟩))
  |refine yaa.bind ?_ (fun _ => ?_)
  |split
  |dsimp only)
theorem zbq {Esc : Value → Prop} (x : Value) : yaa P Q X Esc (Instr.entry x) := by
 unfold Instr.entry
 (repeat' first
  |exact yaa.pure _
  |exact yaa.halt _
  |with_reducible assumption
  |((with_reducible refine zcs ?_ (fun _ => ?_)); · (intro o ho; cases o <;> first | (cases ho; done) | exact .inl rfl | exact .inr fun v => ⟨_, _, rfl, (by rfl)⟩))
  |split
  |dsimp only)
theorem zew (hT : P.toTables = Q.toTables) {Esc : Value → Prop} (t : TypeId) (x : Value) : yaa P Q X Esc (Instr.range t x) := by
 unfold Instr.range
 (repeat' first
  |exact yaa.pure _
  |exact yaa.halt _
  |with_reducible first | assumption | apply zgi | apply zea | apply zee | refine zeu ?_
  |((with_reducible refine zcs ?_ (fun _ => ?_)); · (intro o ho; cases o <;> first | (cases ho; done) | exact .inl rfl | exact .inr fun v => ⟨_, _, rfl, (by rfl)⟩))
  |refine yaa.bind ?_ (fun _ => ?_)
  |split
  |dsimp only)
theorem zcv {Esc : Value → Prop} (op : BinOp) (x y : Int) : yaa P Q X Esc (Op.intCmp op x y) := by
 unfold Op.intCmp
 (repeat' first
  |exact yaa.pure _
  |exact yaa.halt _
  |with_reducible assumption
  |split
  |dsimp only)
theorem zcw (hT : P.toTables = Q.toTables) {Esc : Value → Prop} (op : BinOp) (k : IntKind) (x y : Int) : yaa P Q X Esc (Op.intDiv op k x y) := by
 unfold Op.intDiv
 (repeat' first
  |exact yaa.pure _
  |exact yaa.halt _
  |with_reducible first | assumption | apply zfc
  |split
  |dsimp only)
theorem zfk (hT : P.toTables = Q.toTables) {Esc : Value → Prop} (op : BinOp) (k : IntKind) (x : Int) (l : IntKind) (y : Int) : yaa P Q X Esc (Op.shift op k x l y) := by
 unfold Op.shift
 (repeat' first
  |exact yaa.pure _
  |exact yaa.halt _
  |with_reducible first | assumption | apply zfc
  |split
  |dsimp only)
theorem zfx {Esc : Value → Prop} (op : BinOp) (x y : ByteArray) : yaa P Q X Esc (Op.stringOp op x y) := by
 unfold Op.stringOp
 (repeat' first
  |exact yaa.pure _
  |exact yaa.halt _
  |with_reducible assumption
  |split
  |dsimp only)
theorem zcf {Esc : Value → Prop} (op : BinOp) (k : FloatKind) (x y : Nat) : yaa P Q X Esc (Op.floatArith op k x y) := by
 unfold Op.floatArith
 (repeat' first
  |exact yaa.pure _
  |exact yaa.halt _
  |with_reducible first | assumption | apply zbd | refine zeu ?_
  |refine yaa.bind ?_ (fun _ => ?_)
  |split
  |dsimp only)
theorem zcg {Esc : Value → Prop} (op : BinOp) (k : FloatKind) (x y : Nat) : yaa P Q X Esc (Op.floatCmp op k x y) := by
 unfold Op.floatCmp
 (repeat' first
  |exact yaa.pure _
  |exact yaa.halt _
  |with_reducible assumption
  |split
  |dsimp only)
theorem zgg {Esc : Value → Prop} (op : UnOp) (x : Value) : yaa P Q X Esc (Op.unary op x) := by
 unfold Op.unary
 (repeat' first
  |exact yaa.pure _
  |exact yaa.halt _
  |with_reducible assumption
  |split
  |dsimp only)
theorem zch {Esc : Value → Prop} (k : FloatKind) (b : Nat) (l : FloatKind) : yaa P Q X Esc (Conv.floatToFloat k b l) := by
 unfold Conv.floatToFloat
 (repeat' first
  |exact yaa.pure _
  |with_reducible first | assumption | apply zbd
  |refine yaa.bind ?_ (fun _ => ?_)
  |split
  |dsimp only)
theorem zaf {Esc : Nat → Prop} (op : BinOp) (k : FloatKind) (x y : Nat) : yaa P Q X Esc (Op.Complex.arith op k x y) := by
 unfold Op.Complex.arith
 (repeat' first
  |exact yaa.pure _
  |exact yaa.halt _
  |with_reducible first | assumption | apply zcf
  |refine yaa.bind ?_ (fun _ => ?_)
  |split
  |dsimp only)
theorem zbi {Esc : Nat → Prop} (k : FloatKind) (x : Nat) (l : FloatKind) : yaa P Q X Esc (Op.Complex.conv k x l) := by
 unfold Op.Complex.conv
 (repeat' first
  |exact yaa.pure _
  |exact yaa.halt _
  |with_reducible first | assumption | apply zch
  |refine yaa.bind ?_ (fun _ => ?_)
  |split
  |dsimp only)
theorem zax {Esc : Nat → Prop} (x y : Nat) : yaa P Q X Esc (Op.Complex.add x y) := zaf _ _ _ _
theorem zbn {Esc : Nat → Prop} (x y : Nat) : yaa P Q X Esc (Op.Complex.sub x y) := zaf _ _ _ _
theorem zbf {Esc : Nat → Prop} (x y : Nat) : yaa P Q X Esc (Op.Complex.mul x y) := zaf _ _ _ _
theorem zbm {Esc : Nat → Prop} (x y : Nat) : yaa P Q X Esc (Op.Complex.quo x y) := zaf _ _ _ _
end Go.Sim

namespace Go.Sim
variable {P Q : Program} {X : Nat → Prop}
variable (hT : P.toTables = Q.toTables)
theorem zdb {Esc : Nat → Prop} (v : Value) : yaa P Q X Esc (Builtin.lenOf v) := by
 unfold Builtin.lenOf
 (repeat' first
  |exact yaa.pure _
  |exact yaa.halt _
  |with_reducible assumption
  |split
  |dsimp only)
theorem zce (hT : P.toTables = Q.toTables) {Esc : Array Value → Prop} (a b : Nat) (v : Value) : yaa P Q X Esc (Builtin.firstCells a b v) := by
 unfold Builtin.firstCells
 (repeat' first
  |exact yaa.pure _
  |exact yaa.halt _
  |with_reducible first | assumption | apply zdf
  |split
  |dsimp only)
def ymc (Q : Program) {α : Type} (s : Sem α) : Prop := ∀ v, ∃ b, s.run Q v = .ok b v
theorem ymc.pure {α : Type} (a : α) : ymc Q (Pure.pure a : Sem α) := fun v => ⟨a, rfl⟩
theorem ymc.bind {α β : Type} {s : Sem α} {f : α → Sem β} (h : ymc Q s) (hf : ∀ a, ymc Q (f a)) : ymc Q (s >>= f) := by
 intro v
 obtain ⟨b, hb⟩ := h v
 obtain ⟨c, hc⟩ := hf b v
 exact ⟨c, by show Sem.run Q (s.bind f) v = _; rw [run_bind, hb]; exact hc⟩
theorem yvw (a : Addr) (n : Nat) : ymc Q (Builtin.holdsCells a n) := by
 intro v
 show ∃ b, Sem.run Q (Sem.shape a.block fun x => _) v = _
 simp only [Sem.run]
 cases v.shape? a.block <;> exact ⟨_, rfl⟩
theorem ytd (a : Addr) : ymc Q (frozen a) := fun v => ⟨_, rfl⟩
theorem yvx (s l n : Nat) (a : Option Addr) (x : Value) : ymc Q (Builtin.mayShare s l n a x) := by
 unfold Builtin.mayShare
 repeat' first
  |exact ymc.pure _
  |exact yvw _ _
  |exact ytd _
  |refine ymc.bind ?_ (fun _ => ?_)
  |split
  |dsimp only
theorem zfj {β : Type} {Esc : β → Prop} {s l n : Nat} {a : Option Addr} {x : Value} {f : Bool → Sem β} (h : ∀ b v, ∃ x v', (f b).run Q v = .halt x v' ∧ yie x = true) : yaa P Q X Esc (Builtin.mayShare s l n a x >>= f) := by
 refine yaa.dead fun v => ?_
 obtain ⟨b, hb⟩ := yvx (Q := Q) s l n a x v
 obtain ⟨z, v', e, hz⟩ := h b v
 exact ⟨z, v', by show Sem.run Q ((Builtin.mayShare s l n a x).bind f) v = _; rw [run_bind, hb]; exact e, hz⟩
theorem zda (hT : P.toTables = Q.toTables) {Esc : Value → Prop} (ts : Array TypeId) (t : TypeId) (x : Array Value) : yaa P Q X Esc (Builtin.len_ ts t x) := by
 unfold Builtin.len_
 (repeat' first
  |exact yaa.pure _
  |exact yaa.halt _
  |with_reducible first | assumption | apply zgi
  |((with_reducible refine zcs ?_ (fun _ => ?_)); · (intro o ho; cases o <;> first | (cases ho; done) | exact .inl rfl | exact .inr fun v => ⟨_, _, rfl, (by rfl)⟩))
  |refine yaa.bind ?_ (fun _ => ?_)
  |split
  |dsimp only)
theorem zbb (hT : P.toTables = Q.toTables) {Esc : Value → Prop} (ts : Array TypeId) (t : TypeId) (x : Array Value) : yaa P Q X Esc (Builtin.cap_ ts t x) := by
 unfold Builtin.cap_
 (repeat' first
  |exact yaa.pure _
  |exact yaa.halt _
  |with_reducible first | assumption | apply zgi
  |((with_reducible refine zcs ?_ (fun _ => ?_)); · (intro o ho; cases o <;> first | (cases ho; done) | exact .inl rfl | exact .inr fun v => ⟨_, _, rfl, (by rfl)⟩))
  |refine yaa.bind ?_ (fun _ => ?_)
  |split
  |dsimp only)
theorem zbk (hT : P.toTables = Q.toTables) {Esc : Value → Prop} (ts : Array TypeId) (t : TypeId) (x : Array Value) : yaa P Q X Esc (Builtin.copy_ ts t x) := by
 unfold Builtin.copy_
 (repeat' first
  |exact yaa.pure _
  |exact yaa.halt _
  |with_reducible first | assumption | apply zgi | apply zfl | apply zfv | apply zdb | apply zce
  |refine yaa.bind ?_ (fun _ => ?_)
  |split
  |dsimp only)
theorem zbo (hT : P.toTables = Q.toTables) {Esc : Value → Prop} (ts : Array TypeId) (t : TypeId) (x : Array Value) : yaa P Q X Esc (Builtin.delete_ ts t x) := by
 unfold Builtin.delete_
 (repeat' first
  |exact yaa.pure _
  |exact yaa.halt _
  |with_reducible first | assumption | apply zgi | apply zbc | apply zcd | apply zfg
  |((with_reducible refine zcs ?_ (fun _ => ?_)); · (intro o ho; cases o <;> first | (cases ho; done) | exact .inl rfl | exact .inr fun v => ⟨_, _, rfl, (by rfl)⟩))
  |refine yaa.bind ?_ (fun _ => ?_)
  |split
  |dsimp only)
theorem zbe (hT : P.toTables = Q.toTables) {Esc : Value → Prop} (ts : Array TypeId) (t : TypeId) (x : Array Value) : yaa P Q X Esc (Builtin.clear_ ts t x) := by
 unfold Builtin.clear_
 (repeat' first
  |exact yaa.pure _
  |exact yaa.halt _
  |with_reducible first | assumption | apply zgi | apply zgt | apply zfv | apply zfg
  |((with_reducible refine zcs ?_ (fun _ => ?_)); · (intro o ho; cases o <;> first | (cases ho; done) | exact .inl rfl | exact .inr fun v => ⟨_, _, rfl, (by rfl)⟩))
  |refine yaa.bind ?_ (fun _ => ?_)
  |split
  |dsimp only)
end Go.Sim

namespace Go.Sim
variable {P Q : Program} {X : Nat → Prop}
variable (hT : P.toTables = Q.toTables)
theorem zae (hT : P.toTables = Q.toTables) {Esc : Value → Prop} (ts : Array TypeId) (t : TypeId) (x : Array Value) : yaa P Q X Esc (Builtin.append_ ts t x) := by
 unfold Builtin.append_
 split
 ·refine yaa.bind (zgi hT _) fun d => ?_
  split
  ·split
   ·refine yaa.bind (zfl hT _) fun size => ?_
    extract_lets -underBinder +onlyGivenNames jp1
    have h1 : ∀ z, yaa P Q X Esc (jp1 z) := by
     intro z
     unfold jp1
     extract_lets -underBinder +onlyGivenNames jp2
     have h2 : ∀ n, yaa P Q X Esc (jp2 n) := by
      intro n
      unfold jp2
      extract_lets -underBinder +onlyGivenNames app need
      have ha : Sim P Q X app := by
       unfold app
       (repeat' first
  |exact yaa.pure _
  |exact yaa.halt _
  |with_reducible first | assumption | apply zgd | apply zgi | apply zgt | apply zfl | apply zak | apply zfc | apply zed | apply zbd | apply zfv | apply zdb | apply zce | apply zan | refine zeu ?_
  |((with_reducible refine zfj ?_); · (intro b v; cases b <;> exact ⟨_, _, rfl, (by rfl)⟩))
  |refine yaa.bind ?_ (fun _ => ?_)
  |split
  |dsimp only)
      clear_value app
      split
      ·(repeat' first
  |exact yaa.pure _
  |exact yaa.halt _
  |with_reducible first | assumption | apply zgd | apply zgi | apply zgt | apply zfl | apply zak | apply zfc | apply zed | apply zbd | apply zfv | apply zdb | apply zce | apply zan | refine zeu ?_
  |((with_reducible refine zfj ?_); · (intro b v; cases b <;> exact ⟨_, _, rfl, (by rfl)⟩))
  |refine yaa.bind ?_ (fun _ => ?_)
  |split
  |dsimp only)
      ·refine yaa.bind (zgd hT _) fun ti => ?_
       extract_lets -underBinder +onlyGivenNames jp3
       have h3 : ∀ u, yaa P Q X Esc (jp3 u) := by
        intro u
        unfold jp3
        refine yaa.bind (zgd hT _) fun tj => ?_
        extract_lets -underBinder +onlyGivenNames jp4
        have h4 : ∀ u, yaa P Q X Esc (jp4 u) := by
         intro u
         unfold jp4
         (repeat' first
  |exact yaa.pure _
  |exact yaa.halt _
  |with_reducible first | assumption | apply zgd | apply zgi | apply zgt | apply zfl | apply zak | apply zfc | apply zed | apply zbd | apply zfv | apply zdb | apply zce | apply zan | refine zeu ?_
  |((with_reducible refine zfj ?_); · (intro b v; cases b <;> exact ⟨_, _, rfl, (by rfl)⟩))
  |refine yaa.bind ?_ (fun _ => ?_)
  |split
  |dsimp only)
        clear_value jp4
        split
        ·refine yaa.bind ?_ fun u => h4 _
         (repeat' first
  |exact yaa.pure _
  |exact yaa.halt _
  |with_reducible first | assumption | apply zgd | apply zgi | apply zgt | apply zfl | apply zak | apply zfc | apply zed | apply zbd | apply zfv | apply zdb | apply zce | apply zan | refine zeu ?_
  |((with_reducible refine zfj ?_); · (intro b v; cases b <;> exact ⟨_, _, rfl, (by rfl)⟩))
  |refine yaa.bind ?_ (fun _ => ?_)
  |split
  |dsimp only)
        ·exact h4 _
       clear_value jp3
       split
       ·exact yaa.bind (zfc hT _) fun u => h3 _
       ·exact h3 _
     clear_value jp2
     split
     ·refine yaa.bind (zak _) fun i => ?_
      extract_lets -underBinder +onlyGivenNames l jp5
      have h5 : ∀ u, yaa P Q X Esc (jp5 u) := by
       intro u
       unfold jp5
       refine yaa.bind (zgd hT _) fun tk => ?_
       extract_lets -underBinder +onlyGivenNames jp6
       have h6 : ∀ u, yaa P Q X Esc (jp6 u) := fun u => h2 _
       clear_value jp6
       split
       ·exact yaa.bind (zbd _) fun _ => yaa.bind (zfc hT _) fun _ => h6 _
       ·exact h6 _
      clear_value jp5
      split
      ·exact yaa.bind (zfc hT _) fun _ => h5 _
      ·exact h5 _
     ·exact yaa.bind (zdb _) fun n => h2 _
    clear_value jp1
    (repeat' first
  |exact yaa.pure _
  |exact yaa.halt _
  |with_reducible first | assumption | apply zgd | apply zgi | apply zgt | apply zfl | apply zak | apply zfc | apply zed | apply zbd | apply zfv | apply zdb | apply zce | apply zan | refine zeu ?_
  |((with_reducible refine zfj ?_); · (intro b v; cases b <;> exact ⟨_, _, rfl, (by rfl)⟩))
  |refine yaa.bind ?_ (fun _ => ?_)
  |split
  |dsimp only)
    all_goals exact h1 _
   ·(repeat' first
  |exact yaa.pure _
  |exact yaa.halt _
  |with_reducible first | assumption | apply zgd | apply zgi | apply zgt | apply zfl | apply zak | apply zfc | apply zed | apply zbd | apply zfv | apply zdb | apply zce | apply zan | refine zeu ?_
  |((with_reducible refine zfj ?_); · (intro b v; cases b <;> exact ⟨_, _, rfl, (by rfl)⟩))
  |refine yaa.bind ?_ (fun _ => ?_)
  |split
  |dsimp only)
  ·(repeat' first
  |exact yaa.pure _
  |exact yaa.halt _
  |with_reducible first | assumption | apply zgd | apply zgi | apply zgt | apply zfl | apply zak | apply zfc | apply zed | apply zbd | apply zfv | apply zdb | apply zce | apply zan | refine zeu ?_
  |((with_reducible refine zfj ?_); · (intro b v; cases b <;> exact ⟨_, _, rfl, (by rfl)⟩))
  |refine yaa.bind ?_ (fun _ => ?_)
  |split
  |dsimp only)
 ·(repeat' first
  |exact yaa.pure _
  |exact yaa.halt _
  |with_reducible first | assumption | apply zgd | apply zgi | apply zgt | apply zfl | apply zak | apply zfc | apply zed | apply zbd | apply zfv | apply zdb | apply zce | apply zan | refine zeu ?_
  |((with_reducible refine zfj ?_); · (intro b v; cases b <;> exact ⟨_, _, rfl, (by rfl)⟩))
  |refine yaa.bind ?_ (fun _ => ?_)
  |split
  |dsimp only)
end Go.Sim
