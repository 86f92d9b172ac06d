/- What is drawn is never given back. -/
import GoSem.Step

set_option linter.all false
set_option maxHeartbeats 4000000

namespace Go.Sim
variable {p : Program} {w w' : World} {v : Value} {m : Bool} {l : List Addr} {α : Type}
theorem yqt {at_ : Addr} {u : TypeId} {k : Addr} (h : w.viewStore p at_ u k v m = .ok (w', l)) : w'.drawn = w.drawn := by
 unfold World.viewStore at h
 simp only [bind, Except.bind, pure, Except.pure] at h
 repeat' split at h
 all_goals first | (cases h; done) | skip
 all_goals (cases h; rfl)
theorem yrg {a : Addr} (h : w.farStore p a v m = .ok (w', l)) : w'.drawn = w.drawn := by
 unfold World.farStore at h
 split at h
 ·split at h
  ·next r e =>
   obtain ⟨x, y⟩ := r
   cases h
   exact yqt e
  ·cases h
 ·cases h
theorem ask_drawn (a : Ask α) : ∀ w : World, w.drawn ≤ (w.ask a).2.drawn := by
 induction a with
 |done a => exact fun w => Nat.le_refl _
 |ask what range k ih =>
  intro w
  unfold World.ask
  dsimp only
  split
  ·exact ih _ w
  ·exact Nat.le_trans (Nat.le_succ _) (ih _ { w with drawn := w.drawn + 1 })
theorem sys_drawn (w : World) (c : Sys) : w.drawn ≤ (w.sys c).2.drawn := by
 have := ask_drawn (Kernel.perform c w.os) w
 unfold World.sys
 revert this
 generalize w.ask (Kernel.perform c w.os) = x
 obtain ⟨⟨r, o⟩, w1⟩ := x
 intro h
 cases r <;> first | exact Nat.le_refl _ | exact h
def _root_.Go.Result.wd {α : Type} : Result α → World
 |.ok _ w => w
 |.halt _ w => w
theorem yet (P : Program) (s : Sem α) : ∀ w : World, w.drawn ≤ (s.run P w).wd.drawn := by
 induction s with
 |pure a => exact fun w => Nat.le_refl _
 |halt h => exact fun w => Nat.le_refl _
 |load m a k ih =>
  intro w
  simp only [Sem.run]
  repeat' split
  ·exact ih _ _
  ·exact ih _ _
  ·exact Nat.le_refl _
 |store m a v k ih =>
  intro w
  have key : w.drawn ≤ (match w.cell? a with
   |some _ => if w.frozen? a then .halt (.unsupported (.unsafePointer "a write to bytes that a string shares")) w else k.run P (w.setCell a v)
   |none => match w.farStore P a v (m == .atomic) with
    |.ok (w, _) => k.run P w
    |.error h => .halt h w : Result _).wd.drawn := by
   repeat' split
   ·exact Nat.le_refl _
   ·exact ih (w.setCell a v)
   ·next x w' l e => rw [← yrg e]; exact ih w'
   ·exact Nat.le_refl _
  cases v <;> first | exact Nat.le_refl _ | exact key
 |new o k ih => intro w; exact ih _ { w with heap := w.heap.push o }
 |shape r k ih => exact fun w => ih _ w
 |freeze a n k ih => intro w; simp only [Sem.run]; have : (w.freeze a n).drawn = w.drawn := by (unfold World.freeze; split <;> rfl)
                     rw [← this]; exact ih _
 |frozen a k ih => exact fun w => ih _ w
 |getObj r k ih =>
  intro w
  simp only [Sem.run]
  repeat' split
  ·exact Nat.le_refl _
  ·exact ih _ _
  ·exact Nat.le_refl _
 |setObj r o k ih =>
  intro w
  simp only [Sem.run]
  repeat' split
  ·exact Nat.le_refl _
  ·exact ih { w with heap := w.heap.setIfInBounds r o }
  ·exact Nat.le_refl _
 |choose q k ih =>
  intro w
  simp only [Sem.run]
  split
  ·exact ih _ w
  ·exact Nat.le_trans (Nat.le_succ _) (ih _ { w with drawn := w.drawn + 1 })
 |sys c k ih => intro w; exact Nat.le_trans (sys_drawn w c) (ih _ _)
 |program k ih => exact fun w => ih _ w
 |mark m k ih => exact fun w => ih w
end Go.Sim

namespace Go.Sim
def _root_.Go.Obj.odd : Obj → Bool
 |.loop .. | .pending .. => true
 |_ => false
def _root_.Go.Obj.dull (_ : Obj) : Obj := .coro none
def _root_.Go.Obj.tamed (o : Obj) : Obj := if o.odd then o.dull else o
def _root_.Go.Obj.fit : Obj → Bool
 |.loop .. | .pending .. | .coro .. => false
 |_ => true
theorem fit_odd {o : Obj} (h : o.fit = true) : o.odd = false := by cases o <;> first | rfl | cases h
theorem yil {o : Obj} (h : o.odd = false) : o.tamed = o := by simp [Obj.tamed, h]
structure Lim where
 lim : Nat
 up : Nat
 dn : Nat
 tw : Nat → Question → Nat
 tv : Nat → Question → Nat
structure Rel (X : Nat → Prop) (L : Lim) (w v : World) : Prop where
 size : v.heap.size = w.heap.size
 same : ∀ b, ¬ X b → v.heap[b]? = (w.heap[b]?).map Obj.tamed
 bare : ∀ b, X b → ∃ c t, w.heap[b]? = some (.cells c t (0, 0)) ∧ v.heap[b]? = some (.cells #[] t (0, 0))
 os : v.os = w.os
 output : v.output = w.output
 fut : ∀ i, v.drawn + i < L.lim → v.tape (v.drawn + i) = w.tape (w.drawn + i)
 cnt : w.drawn + L.dn = v.drawn + L.up
 tw : w.tape = L.tw
 tv : v.tape = L.tv
def ylx : Mark → Bool
 |.extern _ | .noRoom => true
 |_ => false
def yld (X : Nat → Prop) (n : Nat) (e : Event) : Prop :=
 match e.loc with
 |.cell a => ¬ X a.block ∧ a.block < n
 |.obj r => ¬ X r ∧ r < n
 |.mark m => ylx m = true
 |.output => True
 |_ => False
def ykf : Halt → Bool
 |.unsupported (.initOrder _) => false
 |.unsupported _ | .stuck _ => true
 |_ => false
def okH : Halt → Bool
 |.panic _ => true
 |x => ykf x
structure ycq (X : Nat → Prop) (w w' : World) : Prop where
 size : w.heap.size ≤ w'.heap.size
 keep : ∀ b, X b → w'.heap[b]? = w.heap[b]?
 odd : ∀ (b : Nat) (o : Obj), w.heap[b]? = some o → w'.heap[b]? = some o ∨ ∃ o' : Obj, w'.heap[b]? = some o' ∧ o'.fit = true
theorem ycq.refl (X : Nat → Prop) (w : World) : ycq X w w := ⟨Nat.le_refl _, fun _ _ => rfl, fun _ _ h => .inl h⟩
theorem ycq.trans {X : Nat → Prop} {a b c : World} (h : ycq X a b) (k : ycq X b c) : ycq X a c := ⟨Nat.le_trans h.size k.size, fun x hx => (k.keep x hx).trans (h.keep x hx), fun x o ho => by
 rcases h.odd x o ho with e | ⟨o', e, hf⟩
 ·exact k.odd x o e
 ·rcases k.odd x o' e with e2 | e2
  ·exact .inr ⟨o', e2, hf⟩
  ·exact .inr e2⟩
theorem ycq.of_heap {X : Nat → Prop} {w w' : World} (h : w'.heap = w.heap) : ycq X w w' := ⟨by rw [h]; exact Nat.le_refl _, fun _ _ => by rw [h], fun _ _ e => .inl (by rw [h]; exact e)⟩
def ybj (X : Nat → Prop) (L : Lim) {α : Type} (Esc : α → Prop) (w : World) (es : Array Event) (r : Result α × Array Event) (res : Result α) : Prop :=
 res.wd.drawn ≤ L.lim → match res with
 |.ok a v' => Esc a ∨ ∃ w' new, r = (.ok a w', es ++ new) ∧ Rel X L w' v' ∧ ycq X w w' ∧ ∀ e ∈ new, yld X w'.heap.size e
 |.halt x v' => okH x = true ∧ ∀ y, x = .panic y → ∃ w' new, r = (.halt (.panic y) w', es ++ new) ∧ Rel X L w' v' ∧ ycq X w w' ∧ ∀ e ∈ new, yld X w'.heap.size e
def yaa (P Q : Program) (X : Nat → Prop) {α : Type} (Esc : α → Prop) (s : Sem α) : Prop :=
 ∀ L w v es, Rel X L w v → ybj X L Esc w es (s.runT P w es) (s.run Q v)
abbrev Sim (P Q : Program) (X : Nat → Prop) {α : Type} (s : Sem α) : Prop := yaa P Q X (fun _ => False) s
section
variable {X : Nat → Prop} {L : Lim} {w v : World}
theorem Rel.xcell (h : Rel X L w v) {a : Addr} (hX : X a.block) : v.cell? a = none := by
 obtain ⟨c, t, _, hv⟩ := h.bare _ hX
 simp [World.cell?, hv]
theorem Rel.xlt (h : Rel X L w v) {b : Nat} (hX : X b) : b < w.heap.size := by
 obtain ⟨c, t, hw, _⟩ := h.bare _ hX
 exact (Array.getElem?_eq_some_iff.1 hw).1
def Wild (o : Obj) : Prop := (∃ c t, o = .pending c t) ∨ (∃ l, o = .loop l)
theorem ykq (o : Obj) : ¬ Wild o.tamed := by
 rintro (⟨c, t, e⟩ | ⟨l, e⟩) <;> cases o <;> simp [Obj.tamed, Obj.odd, Obj.dull] at e
theorem Rel.nov (h : Rel X L w v) {b : Nat} {o : Obj} (ho : v.heap[b]? = some o) : ¬ Wild o := by
 by_cases hX : X b
 ·obtain ⟨c, t, _, hv⟩ := h.bare _ hX
  rw [hv] at ho
  cases ho
  rintro (⟨c, t, e⟩ | ⟨l, e⟩) <;> cases e
 ·rw [h.same b hX, Option.map_eq_some_iff] at ho
  obtain ⟨x, _, rfl⟩ := ho
  exact ykq x
theorem Rel.cell (h : Rel X L w v) {a : Addr} {x : Value} (hc : v.cell? a = some x) : w.cell? a = some x ∧ ¬ X a.block ∧ a.block < w.heap.size := by
 by_cases hX : X a.block
 ·rw [h.xcell hX] at hc; cases hc
 ·have e := h.same _ hX
  unfold World.cell? at hc ⊢
  rw [e] at hc
  cases hw : w.heap[a.block]? with
  |none => rw [hw] at hc; cases hc
  |some o =>
   rw [hw] at hc
   cases o <;> simp [Obj.tamed, Obj.odd, Obj.dull] at hc
   refine ⟨?_, hX, (Array.getElem?_eq_some_iff.1 hw).1⟩
   simpa using hc
theorem Rel.frozen (h : Rel X L w v) (a : Addr) : v.frozen? a = w.frozen? a := by
 by_cases hX : X a.block
 ·obtain ⟨c, t, hw, hv⟩ := h.bare _ hX
  simp [World.frozen?, hv, hw]
 ·unfold World.frozen?
  rw [h.same _ hX]
  cases w.heap[a.block]? with
  |none => rfl
  |some o => cases o <;> rfl
theorem yfz (h : Rel X L w v) (a : Addr) (s : String) : ykf (v.noCell a s) = true := by
 unfold World.noCell
 cases hv : v.heap[a.block]? with
 |none => rfl
 |some o =>
  have := h.nov hv
  cases o <;> first | rfl | exact absurd (.inl ⟨_, _, rfl⟩) this
theorem yvv {P Q : Program} (hT : P.toTables = Q.toTables) (t : TypeId) : P.underlying t = Q.underlying t := by unfold Program.underlying; simp only [hT]
theorem ycx {P Q : Program} (hT : P.toTables = Q.toTables) (t : TypeId) : P.cellsOf t = Q.cellsOf t := by unfold Program.cellsOf; simp only [hT]
theorem ygm {P Q : Program} (hT : P.toTables = Q.toTables) (t : TypeId) : P.bytesOf t = Q.bytesOf t := by unfold Program.bytesOf; simp only [hT]
theorem yci {P Q : Program} (hT : P.toTables = Q.toTables) : P.depth = Q.depth := by unfold Program.depth; simp only [hT]
theorem yfc {P Q : Program} (hT : P.toTables = Q.toTables) (d : Nat) : ∀ t off, byteOfCell P d t off = byteOfCell Q d t off := by
 induction d with
 |zero => intro t off; rfl
 |succ d ih =>
  intro t off
  unfold byteOfCell
  simp only [yvv hT, ycx hT, ygm hT, ih]
theorem yrc {P Q : Program} (hT : P.toTables = Q.toTables) (d : Nat) : ∀ t b, cellHolding P d t b = cellHolding Q d t b := by
 induction d with
 |zero => intro t b; rfl
 |succ d ih =>
  intro t b
  unfold cellHolding
  simp only [yvv hT, ycx hT, ygm hT, ih]
theorem yxo {P Q : Program} (hT : P.toTables = Q.toTables) (d : Nat) : ∀ t off, plainCell P d t off = plainCell Q d t off := by
 induction d with
 |zero => intro t off; rfl
 |succ d ih =>
  intro t off
  unfold plainCell
  simp only [yvv hT, ycx hT, ih]
theorem tight_eq {P Q : Program} (hT : P.toTables = Q.toTables) (d : Nat) : ∀ t, tight P d t = tight Q d t := by
 induction d with
 |zero => intro t; rfl
 |succ d ih =>
  intro t
  unfold tight
  simp only [yvv hT, ygm hT, ih]
theorem yyh {P Q : Program} (hT : P.toTables = Q.toTables) (c : Array Value) (e : TypeId) (f : Nat) : ∀ x stop, seenCells P c e f x stop = seenCells Q c e f x stop := by
 induction f with
 |zero => intro x stop; rfl
 |succ f ih =>
  intro x stop
  unfold seenCells
  simp only [ygm hT, ycx hT, yci hT, yrc hT, ih]
theorem seen_eq {P Q : Program} (hT : P.toTables = Q.toTables) (w : World) (at_ : Addr) (u : TypeId) (k : Addr) (m : Bool) : w.seen P at_ u k m = w.seen Q at_ u k m := by
 unfold World.seen
 simp only [yci hT, yxo hT, yfc hT, ycx hT, ygm hT, yyh hT]
theorem yek : ∀ (n m : Nat), (leBytes n m).length = n
 |0, _ => rfl
 |n + 1, m => by rw [leBytes, List.length_cons, yek n]
theorem bytes_pos {v : Value} {l : List UInt8} (h : v.bytes? = some l) : 0 < l.length := by
 cases v with
 |bool b => simp only [Value.bytes?, Option.some.injEq] at h; subst h; exact Nat.one_pos
 |int k n => simp only [Value.bytes?, Option.some.injEq] at h; subst h; rw [yek]; cases k <;> decide
 |float k n => simp only [Value.bytes?, Option.some.injEq] at h; subst h; rw [yek]; cases k <;> decide
 |complex k n m => simp only [Value.bytes?, Option.some.injEq] at h; subst h; rw [List.length_append, yek]; cases k <;> simp [FloatKind.bytes] <;> omega
 |_ => simp [Value.bytes?] at h
theorem yrm {p : Program} {c : Array Value} {e : TypeId} {f x stop : Nat} {l : List (Nat × Nat × List UInt8)} (h : seenCells p c e f x stop = .ok l) (hx : x < stop) : c ≠ #[] := by
 rintro rfl
 cases f with
 |zero => simp [seenCells] at h
 |succ f =>
  unfold seenCells at h
  rw [if_neg (by omega)] at h
  dsimp only at h
  split at h
  ·cases h
  ·split at h
   ·cases h
   ·simp at h
theorem seen_ok {p : Program} {w : World} {at_ : Addr} {u : TypeId} {k : Addr} {m : Bool} {r : Array Value × TypeId × (Nat × Nat) × Nat × Value × List (Nat × Nat × List UInt8)} (h : w.seen p at_ u k m = .ok r) :
  ∃ c t z, w.heap[at_.block]? = some (.cells c t z) ∧ c ≠ #[] ∧ r.1 = c ∧ r.2.1 = t ∧ r.2.2.1 = z := by
 unfold World.seen at h
 simp only [bind, Except.bind, pure, Except.pure] at h
 split at h
 ·cases h
 split at h
 ·next like hl =>
  split at h
  ·next size hsz =>
   have hp : 0 < size := by
    rw [Option.map_eq_some_iff] at hsz
    obtain ⟨l, h1, rfl⟩ := hsz
    exact bytes_pos h1
   split at h
   ·next β hβ =>
    split at h
    ·next c t z hw =>
     split at h
     ·cases h
     ·split at h
      ·next b0 hb0 =>
       split at h
       ·cases h
       ·next cells hc =>
        refine ⟨c, t, z, hw, yrm hc (by omega), ?_⟩
        (repeat' split at h) <;> first | (cases h; exact ⟨rfl, rfl, rfl⟩) | cases h
      ·cases h
    ·cases h
   ·cases h
  ·cases h
 ·cases h
theorem Rel.seen (h : Rel X L w v) {p : Program} {at_ : Addr} {u : TypeId} {k : Addr} {m : Bool} {r : Array Value × TypeId × (Nat × Nat) × Nat × Value × List (Nat × Nat × List UInt8)} (e : v.seen p at_ u k m = .ok r) :
  w.seen p at_ u k m = .ok r ∧ ¬ X at_.block ∧ at_.block < w.heap.size := by
 obtain ⟨c, t, z, hv, hc, _⟩ := seen_ok e
 have hX : ¬ X at_.block := fun hx => by
  obtain ⟨c', t', _, hv'⟩ := h.bare _ hx
  rw [hv] at hv'
  cases hv'
  exact hc rfl
 have hs := h.same _ hX
 rw [hv] at hs
 cases hw : w.heap[at_.block]? with
 |none => rw [hw] at hs; cases hs
 |some o =>
  rw [hw, Option.map_some, Option.some.injEq] at hs
  have ho : o = .cells c t z := by cases o <;> simp [Obj.tamed, Obj.odd, Obj.dull] at hs <;> simp [hs]
  subst ho
  refine ⟨?_, hX, (Array.getElem?_eq_some_iff.1 hw).1⟩
  rw [← e]
  unfold World.seen
  simp only [hw, hv]
theorem viewLoad_ok {p : Program} {v : World} {at_ : Addr} {u : TypeId} {k : Addr} {m : Bool} {y : Value} {l : List Addr} (h : v.viewLoad p at_ u k m = .ok (y, l)) :
  ∃ r, v.seen p at_ u k m = .ok r ∧ (∀ w : World, w.seen p at_ u k m = .ok r → w.viewLoad p at_ u k m = .ok (y, l)) ∧ ∀ b ∈ l, b.block = at_.block := by
 cases hs : v.seen p at_ u k m with
 |error e => unfold World.viewLoad at h; rw [hs] at h; cases h
 |ok r =>
  refine ⟨r, rfl, fun w hw => ?_, ?_⟩
  ·unfold World.viewLoad at h ⊢
   rw [hs] at h
   rw [hw]
   exact h
  ·unfold World.viewLoad at h
   rw [hs] at h
   simp only [bind, Except.bind, pure, Except.pure] at h
   split at h
   ·cases h
    intro b hb
    obtain ⟨x, _, rfl⟩ := List.mem_map.1 hb
    rfl
   ·cases h
theorem ynw {p : Program} {v v' : World} {at_ : Addr} {u : TypeId} {k : Addr} {x : Value} {m : Bool} {l : List Addr} (h : v.viewStore p at_ u k x m = .ok (v', l)) :
  ∃ r c t z, v.seen p at_ u k m = .ok r ∧ v' = { v with heap := v.heap.setIfInBounds at_.block (.cells c t z) } ∧ (∀ w : World, w.seen p at_ u k m = .ok r → w.viewStore p at_ u k x m = .ok ({ w with heap := w.heap.setIfInBounds at_.block (.cells c t z) }, l)) ∧ ∀ b ∈ l, b.block = at_.block := by
 cases ht : tight p p.depth u with
 |false => unfold World.viewStore at h; rw [ht] at h; cases h
 |true =>
  cases hs : v.seen p at_ u k m with
  |error e => unfold World.viewStore at h; rw [ht, hs] at h; cases h
  |ok r =>
   obtain ⟨c0, t0, z0, first, like, cells⟩ := r
   unfold World.viewStore at h
   rw [ht, hs] at h
   simp only [bind, Except.bind, pure, Except.pure, Bool.not_true, Bool.false_eq_true, if_false] at h
   split at h
   ·next bytes hb =>
    split at h
    ·next hne =>
     cases h
    ·next hne =>
     split at h
     ·cases h
     ·next c hc =>
      cases h
      refine ⟨_, c, t0, z0, rfl, rfl, fun w hw => ?_, fun b hb => ?_⟩
      ·unfold World.viewStore
       rw [ht, hw]
       simp only [bind, Except.bind, pure, Except.pure, Bool.not_true, Bool.false_eq_true, if_false, hb, if_neg hne, hc]
      ·obtain ⟨x, _, rfl⟩ := List.mem_map.1 hb
       rfl
   ·cases h
theorem Rel.viewAt (h : Rel X L w v) {b : Nat} {at_ : Addr} {u : TypeId} (e : v.heap[b]? = some (.view at_ u)) : w.heap[b]? = some (.view at_ u) ∧ ¬ X b := by
 have hX : ¬ X b := fun hx => by
  obtain ⟨c', t', _, hv'⟩ := h.bare _ hx
  rw [e] at hv'
  cases hv'
 refine ⟨?_, hX⟩
 have hs := h.same _ hX
 rw [e] at hs
 cases hw : w.heap[b]? with
 |none => rw [hw] at hs; cases hs
 |some o =>
  rw [hw, Option.map_some, Option.some.injEq] at hs
  cases o <;> simp [Obj.tamed, Obj.odd, Obj.dull] at hs <;> simp [hs]
theorem Rel.far {P Q : Program} (hT : P.toTables = Q.toTables) (h : Rel X L w v) (a : Addr) (m : Bool) : (∃ x, v.farLoad Q a m = .error x ∧ ykf x = true) ∨ ∃ y l, v.farLoad Q a m = .ok (y, l) ∧ w.cell? a = none ∧ w.farLoad P a m = .ok (y, l) ∧ ∀ b ∈ l, ¬ X b.block ∧ b.block < w.heap.size := by
 cases hv : v.heap[a.block]? with
 |none => left; unfold World.farLoad; rw [hv]; exact ⟨_, rfl, yfz h a _⟩
 |some o =>
  cases o with
  |view at_ u =>
   obtain ⟨hw, _⟩ := h.viewAt hv
   cases hl : v.viewLoad Q at_ u a m with
   |error e => left; unfold World.farLoad; rw [hv]; dsimp only; rw [hl]; exact ⟨_, rfl, rfl⟩
   |ok yl =>
    obtain ⟨y, l⟩ := yl
    obtain ⟨r, h1, h2, h3⟩ := viewLoad_ok hl
    obtain ⟨g1, g2, g3⟩ := h.seen h1
    right
    refine ⟨y, l, ?_, ?_, ?_, fun b hb => by rw [h3 b hb]; exact ⟨g2, g3⟩⟩
    ·unfold World.farLoad; rw [hv]; dsimp only; rw [hl]
    ·simp [World.cell?, hw]
    ·unfold World.farLoad; rw [hw]; dsimp only
     have : w.viewLoad P at_ u a m = w.viewLoad Q at_ u a m := by unfold World.viewLoad; rw [seen_eq hT]
     rw [this, h2 w g1]
  |_ => left; unfold World.farLoad; rw [hv]; exact ⟨_, rfl, yfz h a _⟩
theorem Rel.farS {P Q : Program} (hT : P.toTables = Q.toTables) (h : Rel X L w v) (a : Addr) (x : Value) (m : Bool) : (∃ y, v.farStore Q a x m = .error y ∧ ykf y = true) ∨ ∃ b c t z l, ¬ X b ∧ b < w.heap.size ∧ v.farStore Q a x m = .ok ({ v with heap := v.heap.setIfInBounds b (.cells c t z) }, l) ∧ w.cell? a = none ∧ w.farStore P a x m = .ok ({ w with heap := w.heap.setIfInBounds b (.cells c t z) }, l) ∧ ∀ d ∈ l, d.block = b := by
 cases hv : v.heap[a.block]? with
 |none => left; unfold World.farStore; rw [hv]; exact ⟨_, rfl, yfz h a _⟩
 |some o =>
  cases o with
  |view at_ u =>
   obtain ⟨hw, _⟩ := h.viewAt hv
   cases hl : v.viewStore Q at_ u a x m with
   |error e => left; unfold World.farStore; rw [hv]; dsimp only; rw [hl]; exact ⟨_, rfl, rfl⟩
   |ok yl =>
    obtain ⟨v', l⟩ := yl
    obtain ⟨r, c, t, z, h1, rfl, h2, h3⟩ := ynw hl
    obtain ⟨g1, g2, g3⟩ := h.seen h1
    right
    refine ⟨at_.block, c, t, z, l, g2, g3, ?_, ?_, ?_, h3⟩
    ·unfold World.farStore; rw [hv]; dsimp only; rw [hl]
    ·simp [World.cell?, hw]
    ·unfold World.farStore; rw [hw]; dsimp only
     have : w.viewStore P at_ u a x m = w.viewStore Q at_ u a x m := by unfold World.viewStore; rw [seen_eq hT, yci hT, tight_eq hT]
     rw [this, h2 w g1]
  |_ => left; unfold World.farStore; rw [hv]; exact ⟨_, rfl, yfz h a _⟩
end
variable {P Q : Program} {X : Nat → Prop} {L : Lim}
theorem okH_of_dead {x : Halt} (h : ykf x = true) : okH x = true := by
 cases x <;> first | rfl | exact h
theorem ybj.halt {α : Type} {Esc : α → Prop} {w : World} {es : Array Event} {r : Result α × Array Event} {x : Halt} {v : World} (h : ykf x = true) : ybj X L Esc w es r (.halt x v) :=
 fun _ => ⟨okH_of_dead h, fun y e => by subst e; cases h⟩
theorem yaa.pure {α : Type} {Esc : α → Prop} (a : α) : yaa P Q X Esc (Sem.pure a) := fun L w v es h _ => .inr ⟨w, #[], by simp [Sem.runT], h, .refl X w, by simp⟩
theorem yld.mono {n m : Nat} {e : Event} (h : yld X n e) (hn : n ≤ m) : yld X m e := by
 unfold yld at h ⊢
 split <;> simp_all <;> omega
theorem yeq {α β : Type} (P : Program) (x : Sem α) (f : α → Sem β) (w : World) (es : Array Event) :
  (x.bind f).runT P w es = match x.runT P w es with
   |(.ok a w', es') => (f a).runT P w' es'
   |(.halt h w', es') => (.halt h w', es') := by
 induction x generalizing w es with
 |pure a => simp [Sem.bind, Sem.runT]
 |load m a k ih => simp only [Sem.bind, Sem.runT]; (repeat' split) <;> simp_all
 |store m a v k ih => cases v <;> simp only [Sem.bind, Sem.runT] <;> (try ((repeat' split) <;> simp_all))
 |new o k ih => simp [Sem.bind, Sem.runT, ih]
 |shape r k ih => simp [Sem.bind, Sem.runT, ih]
 |freeze a n k ih => simp [Sem.bind, Sem.runT, ih]
 |frozen a k ih => simp [Sem.bind, Sem.runT, ih]
 |getObj r k ih => simp only [Sem.bind, Sem.runT]; (repeat' split) <;> simp_all
 |setObj r o k ih => simp only [Sem.bind, Sem.runT]; (repeat' split) <;> simp_all
 |choose q k ih => simp only [Sem.bind, Sem.runT]; (repeat' split) <;> simp_all
 |sys c k ih => simp [Sem.bind, Sem.runT, ih]
 |program k ih => simp [Sem.bind, Sem.runT, ih]
 |mark m k ih => simp [Sem.bind, Sem.runT, ih]
 |halt h => simp [Sem.bind, Sem.runT]
theorem run_bind {α β : Type} (P : Program) (x : Sem α) (f : α → Sem β) (w : World) :
  (x.bind f).run P w = match x.run P w with
   |.ok a w' => (f a).run P w'
   |.halt h w' => .halt h w' := by
 induction x generalizing w with
 |pure a => simp [Sem.bind, Sem.run]
 |load m a k ih => simp only [Sem.bind, Sem.run]; (repeat' split) <;> simp_all
 |store m a v k ih => cases v <;> simp only [Sem.bind, Sem.run] <;> (try ((repeat' split) <;> simp_all))
 |new o k ih => simp [Sem.bind, Sem.run, ih]
 |shape r k ih => simp [Sem.bind, Sem.run, ih]
 |freeze a n k ih => simp [Sem.bind, Sem.run, ih]
 |frozen a k ih => simp [Sem.bind, Sem.run, ih]
 |getObj r k ih => simp only [Sem.bind, Sem.run]; (repeat' split) <;> simp_all
 |setObj r o k ih => simp only [Sem.bind, Sem.run]; (repeat' split) <;> simp_all
 |choose q k ih => simp only [Sem.bind, Sem.run]; (repeat' split) <;> simp_all
 |sys c k ih => simp [Sem.bind, Sem.run, ih]
 |program k ih => simp [Sem.bind, Sem.run, ih]
 |mark m k ih => simp [Sem.bind, Sem.run, ih]
 |halt h => simp [Sem.bind, Sem.run]
theorem ybj.step {α : Type} {Esc : α → Prop} {w w1 : World} {es pre : Array Event} {r : Result α × Array Event} {res : Result α} (h : ybj X L Esc w1 (es ++ pre) r res) (hs : ycq X w w1) (hp : ∀ e ∈ pre, yld X w1.heap.size e) : ybj X L Esc w es r res := by
 intro hL
 have h' := h hL
 clear h
 cases res with
 |ok b v' =>
  rcases h' with q | ⟨w', new, e, hR, hs', hn⟩
  ·exact .inl q
  ·exact .inr ⟨w', pre ++ new, by rw [e, Array.append_assoc], hR, hs.trans hs', fun x hx => (Array.mem_append.1 hx).elim (fun q => (hp x q).mono hs'.size) (hn x)⟩
 |halt x v' =>
  refine ⟨h'.1, fun y hy => ?_⟩
  obtain ⟨w', new, e, hR, hs', hn⟩ := h'.2 y hy
  exact ⟨w', pre ++ new, by rw [e, Array.append_assoc], hR, hs.trans hs', fun x hx => (Array.mem_append.1 hx).elim (fun q => (hp x q).mono hs'.size) (hn x)⟩
theorem ybj.push {α : Type} {Esc : α → Prop} {w w1 : World} {es : Array Event} {x : Event} {r : Result α × Array Event} {res : Result α} (h : ybj X L Esc w1 (es.push x) r res) (hs : ycq X w w1) (hp : yld X w1.heap.size x) : ybj X L Esc w es r res :=
 ybj.step (pre := #[x]) (by simpa using h) hs (by simpa using hp)
theorem ybj.late {α : Type} {Esc : α → Prop} {w : World} {es : Array Event} {r : Result α × Array Event} {res : Result α} (h : L.lim < res.wd.drawn) : ybj X L Esc w es r res := fun hL => absurd hL (Nat.not_le.2 h)
theorem yaa.bind {α β : Type} {Esc : β → Prop} {s : Sem α} {f : α → Sem β} (h : Sim P Q X s) (hf : ∀ a, yaa P Q X Esc (f a)) : yaa P Q X Esc (s.bind f) := by
 intro L w v es hR hL
 have h1 := h L w v es hR
 rw [run_bind] at hL ⊢
 rw [yeq]
 generalize s.run Q v = r at h1 hL
 cases r with
 |ok a v' =>
  have hm : v'.drawn ≤ ((f a).run Q v').wd.drawn := yet Q (f a) v'
  rcases h1 (Nat.le_trans hm hL) with h1 | ⟨w', new, e, hR', hs, hn⟩
  ·exact h1.elim
  rw [e]
  exact (ybj.step (hf a L w' v' (es ++ new) hR') hs hn) hL
 |halt y v' =>
  refine ⟨(h1 hL).1, fun z hz => ?_⟩
  obtain ⟨w', new, e, hR', hs, hn⟩ := (h1 hL).2 z hz
  rw [e]
  exact ⟨w', new, rfl, hR', hs, hn⟩
theorem yaa.halt {α : Type} {Esc : α → Prop} (x : Halt) (hx : okH x = true := by rfl) : yaa P Q X Esc (Sem.halt x : Sem α) := by
 intro L w v es h _
 exact ⟨hx, fun y e => by subst e; exact ⟨w, #[], by simp [Sem.runT], h, .refl X w, by simp⟩⟩
theorem yaa.load (hT : P.toTables = Q.toTables) {α : Type} {Esc : α → Prop} {m : Mode} {a : Addr} {k : Value → Sem α} (hk : ∀ v, yaa P Q X Esc (k v)) : yaa P Q X Esc (Sem.load m a k) := by
 intro L w v es h
 simp only [Sem.run, Sem.runT]
 cases hc : v.cell? a with
 |none =>
  rcases h.far hT a (m == .atomic) with ⟨x, e, hx⟩ | ⟨y, l, e, hn, hf, hl⟩
  ·simp only [e]
   exact .halt hx
  ·simp only [e, hn, hf]
   refine ybj.step (hk y L w v _ h) (.refl X w) (fun ev hev => ?_)
   obtain ⟨b, hb, rfl⟩ := Array.mem_map.1 hev
   exact hl b (by simpa using hb)
 |some y =>
  obtain ⟨h1, h2, h3⟩ := h.cell hc
  simp only [h1]
  exact (hk y L w v _ h).push (.refl X w) ⟨h2, by omega⟩
theorem Rel.heap {w v : World} (h : Rel X L w v) (b : Nat) (hb : ¬ X b) (o : Obj) (ho : o.odd = false) :
  Rel X L { w with heap := w.heap.setIfInBounds b o } { v with heap := v.heap.setIfInBounds b o } := by
 refine ⟨by simp [h.size], fun c hc => ?_, fun c hc => ?_, h.os, h.output, h.fut, h.cnt, h.tw, h.tv⟩
 ·simp only [Array.getElem?_setIfInBounds, h.size]
  split
  ·split
   ·simp [yil ho]
   ·rfl
  ·exact h.same c hc
 ·have : b ≠ c := fun e => hb (e ▸ hc)
  simpa only [Array.getElem?_setIfInBounds, this, if_false] using h.bare c hc
theorem Rel.set {w v : World} (h : Rel X L w v) {a : Addr} (hb : ¬ X a.block) (x : Value) : Rel X L (w.setCell a x) (v.setCell a x) := by
 unfold World.setCell
 refine ⟨by simp [h.size], fun c hc => ?_, fun c hc => ?_, h.os, h.output, h.fut, h.cnt, h.tw, h.tv⟩
 ·simp only [Array.getElem?_modify]
  split
  ·rw [h.same c hc]
   cases w.heap[c]? with
   |none => rfl
   |some o => cases o <;> rfl
  ·exact h.same c hc
 ·have : a.block ≠ c := fun e => hb (e ▸ hc)
  simpa only [Array.getElem?_modify, this, if_false] using h.bare c hc
theorem ywv {w : World} {a : Addr} (hb : ¬ X a.block) (x : Value) : ycq X w (w.setCell a x) := by
 unfold World.setCell
 refine ⟨by simp, fun c hc => ?_, fun c o ho => ?_⟩
 ·have : a.block ≠ c := fun e => hb (e ▸ hc)
  simp only [Array.getElem?_modify, this, if_false]
 ·simp only [Array.getElem?_modify]
  split
  ·rw [ho]
   cases o <;> first | exact .inl rfl | exact .inr ⟨_, rfl, rfl⟩
  ·exact .inl ho
theorem ygo {w : World} {a : Addr} (hb : ¬ X a.block) (n : Nat) : ycq X w (w.freeze a n) := by
 unfold World.freeze
 split
 ·exact .refl X w
 refine ⟨by simp, fun c hc => ?_, fun c o ho => ?_⟩
 ·have : a.block ≠ c := fun e => hb (e ▸ hc)
  simp only [Array.getElem?_modify, this, if_false]
 ·simp only [Array.getElem?_modify]
  split
  ·rw [ho]
   cases o <;> first | exact .inl rfl | exact .inr ⟨_, rfl, rfl⟩
  ·exact .inl ho
theorem ysg {w : World} {b : Nat} (hb : ¬ X b) (o : Obj) (hfit : o.fit = true) : ycq X w { w with heap := w.heap.setIfInBounds b o } := by
 refine ⟨by simp, fun c hc => ?_, fun c x hx => ?_⟩
 ·have : b ≠ c := fun e => hb (e ▸ hc)
  simp only [Array.getElem?_setIfInBounds, this, if_false]
 ·simp only [Array.getElem?_setIfInBounds]
  split
  ·next e =>
   subst e
   rw [if_pos (Array.getElem?_eq_some_iff.1 hx).1]
   exact .inr ⟨o, rfl, hfit⟩
  ·exact .inl hx
theorem Rel.grows_push {w v : World} (h : Rel X L w v) (o : Obj) : ycq X w { w with heap := w.heap.push o } := by
 refine ⟨by simp, fun c hc => ?_, fun c x hx => ?_⟩
 ·have hne : c ≠ w.heap.size := by have := h.xlt hc; omega
  simp only [Array.getElem?_push, hne, if_false]
 ·have hne : c ≠ w.heap.size := by have := (Array.getElem?_eq_some_iff.1 hx).1; omega
  simp only [Array.getElem?_push, hne, if_false]
  exact .inl hx
theorem yaa.store (hT : P.toTables = Q.toTables) {α : Type} {Esc : α → Prop} {m : Mode} {a : Addr} {x : Value} {k : Sem α} (hk : yaa P Q X Esc k) : yaa P Q X Esc (Sem.store m a x k) := by
 intro L w v es h
 have key : (∀ l, x ≠ .agg l) → (∀ l, x ≠ .tuple l) → ybj X L Esc w es ((Sem.store m a x k).runT P w es) ((Sem.store m a x k).run Q v) := by
  intro q1 q2
  have e1 : ∀ w, (Sem.store m a x k).run Q w = match w.cell? a with
   |some _ => if w.frozen? a then .halt (.unsupported (.unsafePointer "a write to bytes that a string shares")) w else k.run Q (w.setCell a x)
   |none => match w.farStore Q a x (m == .atomic) with
    |.ok (w, _) => k.run Q w
    |.error h => .halt h w := by
   intro w; cases x <;> first | rfl | exact absurd rfl (q1 _) | exact absurd rfl (q2 _)
  have e2 : ∀ w es, (Sem.store m a x k).runT P w es = match w.cell? a with
   |some _ =>
    if w.frozen? a then (.halt (.unsupported (.unsafePointer "a write to bytes that a string shares")) w, es)
    else k.runT P (w.setCell a x) (es.push ⟨.cell a, true, m == .atomic⟩)
   |none => match w.farStore P a x (m == .atomic) with
    |.ok (w, touched) => k.runT P w (es ++ touched.toArray.map (⟨.cell ·, true, m == .atomic⟩))
    |.error h => (.halt h w, es) := by
   intro w es; cases x <;> first | rfl | exact absurd rfl (q1 _) | exact absurd rfl (q2 _)
  rw [e1, e2]
  cases hc : v.cell? a with
  |none =>
   rcases h.farS hT a x (m == .atomic) with ⟨y, e, hx⟩ | ⟨b, c, t, z, l, g1, g2, e, hn, hf, hl⟩
   ·simp only [e]
    exact .halt hx
   ·simp only [e, hn, hf]
    refine ybj.step (hk _ _ _ _ (h.heap b g1 _ rfl)) (ysg g1 _ rfl) (fun ev hev => ?_)
    obtain ⟨d, hd, rfl⟩ := Array.mem_map.1 hev
    have := hl d (by simpa using hd)
    exact ⟨by rw [this]; exact g1, by rw [this]; simpa using g2⟩
  |some y =>
   obtain ⟨h1, h2, h3⟩ := h.cell hc
   simp only [h1, h.frozen a]
   split
   ·exact .halt rfl
   ·have hsz : (w.setCell a x).heap.size = w.heap.size := by simp [World.setCell]
    exact (hk _ _ _ _ (h.set h2 x)).push (ywv h2 x) ⟨h2, by rw [hsz]; exact h3⟩
 cases x with
 |agg l => exact .halt rfl
 |tuple l => exact .halt rfl
 |_ => exact key (fun l e => by cases e) (fun l e => by cases e)
theorem Rel.pushed {w v : World} (h : Rel X L w v) (o : Obj) (ho : o.odd = false) : Rel X L { w with heap := w.heap.push o } { v with heap := v.heap.push o } := by
 refine ⟨by simp [h.size], fun c hc => ?_, fun c hc => ?_, h.os, h.output, h.fut, h.cnt, h.tw, h.tv⟩
 ·simp only [Array.getElem?_push, h.size]
  split
  ·simp [yil ho]
  ·exact h.same c hc
 ·have hne : c ≠ w.heap.size := by have := h.xlt hc; omega
  simpa only [Array.getElem?_push, h.size, hne, if_false] using h.bare c hc
theorem yaa.new {α : Type} {Esc : α → Prop} {o : Obj} {k : Nat → Sem α} (ho : o.odd = false) (hk : ∀ r, yaa P Q X Esc (k r)) : yaa P Q X Esc (Sem.new o k) := by
 intro L w v es h
 simp only [Sem.run, Sem.runT, h.size]
 refine ybj.step (pre := #[]) (w1 := { w with heap := w.heap.push o }) ?_ (h.grows_push o) (by simp)
 simp only [Array.append_empty]
 exact hk _ _ _ _ _ (h.pushed o ho)
theorem yaa.getObj {α : Type} {Esc : α → Prop} {r : Nat} {k : Obj → Sem α} (hd : ∀ o : Obj, o.odd = true → k o = k o.dull ∨ ∀ v, ∃ x v', (k o.dull).run Q v = .halt x v' ∧ ykf x = true) (hk : ∀ o, yaa P Q X Esc (k o)) : yaa P Q X Esc (Sem.getObj r k) := by
 intro L w v es h
 simp only [Sem.run, Sem.runT]
 by_cases hX : X r
 ·obtain ⟨c, t, hw, hv⟩ := h.bare r hX
  simp only [hv]; exact .halt rfl
 ·have hs := h.same r hX
  cases hw : w.heap[r]? with
  |none => rw [hw] at hs; simp only [hs]; exact .halt rfl
  |some o =>
   have hlt : r < w.heap.size := (Array.getElem?_eq_some_iff.1 hw).1
   rw [hw] at hs
   cases ho : o.odd with
   |false =>
    rw [Option.map_some, yil ho] at hs
    simp only [hs]
    cases o with
    |cells c t z => exact .halt rfl
    |_ => exact (hk _ _ _ _ _ h).push (.refl X w) ⟨hX, hlt⟩
   |true =>
    have ht : o.tamed = o.dull := by simp [Obj.tamed, ho]
    rw [Option.map_some, ht] at hs
    simp only [hs]
    have key : ybj X L Esc w es ((k o).runT P w (es.push ⟨.obj r, false, o.isChan⟩)) ((k o.dull).run Q v) := by
     rcases hd o ho with e | e
     ·rw [e]; exact (hk _ _ _ _ _ h).push (.refl X w) ⟨hX, hlt⟩
     ·obtain ⟨x, v', e, hx⟩ := e v
      rw [e]
      exact .halt hx
    cases o <;> first | (cases ho; done) | exact key
theorem yaa.setObj {α : Type} {Esc : α → Prop} {r : Nat} {o : Obj} {k : Sem α} (hfit : o.fit = true) (hk : yaa P Q X Esc k) : yaa P Q X Esc (Sem.setObj r o k) := by
 intro L w v es h
 have ho := fit_odd hfit
 simp only [Sem.run, Sem.runT]
 by_cases hX : X r
 ·obtain ⟨c, t, hw, hv⟩ := h.bare r hX
  simp only [hv]; exact .halt rfl
 have fin : ∀ hlt : r < w.heap.size, ybj X L Esc w es (k.runT P { w with heap := w.heap.setIfInBounds r o } (es.push ⟨.obj r, true, o.isChan⟩)) (k.run Q { v with heap := v.heap.setIfInBounds r o }) :=
  fun hlt => (hk _ _ _ _ (h.heap r hX o ho)).push (ysg hX o hfit) ⟨hX, by simpa using hlt⟩
 have hs := h.same r hX
 cases hw : w.heap[r]? with
 |none => rw [hw] at hs; simp only [hs]; exact .halt rfl
 |some x =>
  have hlt : r < w.heap.size := (Array.getElem?_eq_some_iff.1 hw).1
  rw [hw] at hs
  cases x <;> simp only [hs, Option.map_some, Obj.tamed, Obj.odd, Obj.dull, if_true, Bool.false_eq_true, if_false] <;> first | exact .halt rfl | exact fin hlt
theorem Rel.drew {w v : World} (h : Rel X L w v) : Rel X L { w with drawn := w.drawn + 1 } { v with drawn := v.drawn + 1 } := by
 refine ⟨h.size, h.same, h.bare, h.os, h.output, fun i hi => ?_, by show w.drawn + 1 + L.dn = v.drawn + 1 + L.up; have := h.cnt; omega, h.tw, h.tv⟩
 show v.tape (v.drawn + 1 + i) = w.tape (w.drawn + 1 + i)
 rw [show v.drawn + 1 + i = v.drawn + (1 + i) by omega, show w.drawn + 1 + i = w.drawn + (1 + i) by omega]
 exact h.fut _ (by dsimp only at hi; omega)
theorem yaa.choose {α : Type} {Esc : α → Prop} {q : Question} {k : Nat → Sem α} (hk : ∀ n, yaa P Q X Esc (k n)) : yaa P Q X Esc (Sem.choose q k) := by
 intro L w v es h
 simp only [Sem.run, Sem.runT]
 split
 ·exact hk _ _ _ _ _ h
 ·by_cases hL : v.drawn < L.lim
  ·have e : v.tape v.drawn = w.tape w.drawn := by simpa using h.fut 0 (by omega)
   rw [e]
   refine ybj.step (pre := #[]) (w1 := { w with drawn := w.drawn + 1 }) ?_ (.of_heap rfl) (by simp)
   simp only [Array.append_empty]
   exact hk _ _ _ _ _ h.drew
  ·exact ybj.late (Nat.lt_of_lt_of_le (by show L.lim < v.drawn + 1; omega) (yet Q _ { v with drawn := v.drawn + 1 }))
theorem yaa.program {α : Type} {Esc : α → Prop} {k : Program → Sem α} (e : k P = k Q) (hk : yaa P Q X Esc (k Q)) : yaa P Q X Esc (Sem.program k) := by
 intro L w v es h
 simp only [Sem.run, Sem.runT, e]
 exact hk _ _ _ _ h
theorem yaa.mark {α : Type} {Esc : α → Prop} {m : Mark} {k : Sem α} (hm : ylx m = true) (hk : yaa P Q X Esc k) : yaa P Q X Esc (Sem.mark m k) := by
 intro L w v es h
 simp only [Sem.run, Sem.runT]
 exact (hk _ _ _ _ h).push (.refl X w) hm
theorem yaa.frozen {α : Type} {Esc : α → Prop} {a : Addr} {k : Bool → Sem α} (hk : ∀ b, yaa P Q X Esc (k b)) : yaa P Q X Esc (Sem.frozen a k) := by
 intro L w v es h
 simp only [Sem.run, Sem.runT, h.frozen a]
 exact hk _ _ _ _ _ h
theorem Rel.shapeN {w v : World} (h : Rel X L w v) {r : Nat} (hX : ¬ X r) : v.shape? r = w.shape? r := by
 unfold World.shape?
 rw [h.same r hX]
 cases w.heap[r]? with
 |none => rfl
 |some o => cases o <;> rfl
theorem Rel.shape {w v : World} (h : Rel X L w v) (r : Nat) : v.shape? r = w.shape? r ∨ (X r ∧ ∃ t n, w.shape? r = some (t, n) ∧ v.shape? r = some (t, 0)) := by
 by_cases hX : X r
 ·obtain ⟨c, t, hw, hv⟩ := h.bare r hX
  exact .inr ⟨hX, t, c.size, by simp [World.shape?, hw], by simp [World.shape?, hv]⟩
 ·exact .inl (h.shapeN hX)
theorem yaa.shape {α : Type} {Esc : α → Prop} {r : Nat} {k : Option (TypeId × Nat) → Sem α} (e : ∀ t n m, k (some (t, n)) = k (some (t, m))) (hk : ∀ x, yaa P Q X Esc (k x)) : yaa P Q X Esc (Sem.shape r k) := by
 intro L w v es h
 simp only [Sem.run, Sem.runT]
 rcases h.shape r with q | ⟨_, t, n, hw, hv⟩
 ·rw [q]; exact hk _ _ _ _ _ h
 ·rw [hw, hv, e t n 0]; exact hk _ _ _ _ _ h
theorem yaa.sys {α : Type} {Esc : α → Prop} {c : Sys} {k : SysRet → Sem α} (hc : ∀ os, ∃ x, Kernel.perform c os = .done x) (hk : ∀ n, yaa P Q X Esc (k n)) : yaa P Q X Esc (Sem.sys c k) := by
 intro L w v es h
 obtain ⟨⟨r, o⟩, e⟩ := hc w.os
 have h1 : (v.sys c).1 = (w.sys c).1 ∧ Rel X L (w.sys c).2 (v.sys c).2 ∧ (w.sys c).2.heap = w.heap := by
  unfold World.sys
  rw [h.os, e]
  unfold World.ask
  cases r <;> first | exact ⟨rfl, h, rfl⟩ | exact ⟨rfl, ⟨h.size, h.same, h.bare, rfl, h.output, h.fut, h.cnt, h.tw, h.tv⟩, rfl⟩
 simp only [Sem.run, Sem.runT, h1.1]
 exact (hk _ _ _ _ _ h1.2.1).push (.of_heap h1.2.2) trivial
theorem yaa.dead {α : Type} {Esc : α → Prop} {s : Sem α} (h : ∀ v, ∃ x v', s.run Q v = .halt x v' ∧ ykf x = true) : yaa P Q X Esc s := by
 intro L w v es hR
 obtain ⟨x, v', e, hx⟩ := h v
 rw [e]
 exact .halt hx
theorem Rel.freeze {w v : World} (h : Rel X L w v) {a : Addr} (hb : ¬ X a.block) (n : Nat) : Rel X L (w.freeze a n) (v.freeze a n) := by
 unfold World.freeze
 split
 ·exact h
 refine ⟨by simp [h.size], fun c hc => ?_, fun c hc => ?_, h.os, h.output, h.fut, h.cnt, h.tw, h.tv⟩
 ·simp only [Array.getElem?_modify]
  split
  ·rw [h.same c hc]
   cases w.heap[c]? with
   |none => rfl
   |some o => cases o <;> rfl
  ·exact h.same c hc
 ·have : a.block ≠ c := fun e => hb (e ▸ hc)
  simpa only [Array.getElem?_modify, this, if_false] using h.bare c hc
end Go.Sim

namespace Go.Sim
variable {P Q : Program} {X : Nat → Prop}
theorem zee {α : Type} {Esc : α → Prop} (a : α) : yaa P Q X Esc (Pure.pure a : Sem α) := yaa.pure a
theorem zef {α β : Type} {Esc : β → Prop} {a : α} {f : α → Sem β} (h : yaa P Q X Esc (f a)) : yaa P Q X Esc (Pure.pure a >>= f) := h
theorem zfh {α : Type} {Esc : α → Prop} (y : String) : yaa P Q X Esc (stuck y : Sem α) := yaa.halt _
theorem zct (hT : P.toTables = Q.toTables) {Esc : Value → Prop} (a : Addr) (m : Mode) : yaa P Q X Esc (load a m) := yaa.load hT fun _ => yaa.pure _
theorem zfb (hT : P.toTables = Q.toTables) {Esc : Unit → Prop} (a : Addr) (v : Value) (m : Mode) : yaa P Q X Esc (store a v m) := yaa.store hT (yaa.pure _)
theorem zba {Esc : Nat → Prop} (q : Question) : yaa P Q X Esc (choose q) := yaa.choose fun _ => yaa.pure _
theorem zcj {Esc : Bool → Prop} (a : Addr) : yaa P Q X Esc (frozen a) := yaa.frozen fun _ => yaa.pure _
theorem zed {α : Type} {Esc : α → Prop} {f : Program → Sem α} (e : f P = f Q) (h : yaa P Q X Esc (f Q)) : yaa P Q X Esc (program >>= f) := yaa.program (k := f) e h
variable (hT : P.toTables = Q.toTables)
theorem ygh (hT : P.toTables = Q.toTables) (t : TypeId) : P.underlying t = Q.underlying t := by unfold Program.underlying; simp only [hT]
theorem zfk (hT : P.toTables = Q.toTables) {Esc : TypeInfo → Prop} (t : TypeId) : yaa P Q X Esc (typeInfo t) := by
 refine zed ?_ ?_
 ·simp only [hT]
 ·split
  ·exact yaa.pure _
  ·exact yaa.halt _
theorem zfo (hT : P.toTables = Q.toTables) {Esc : TypeDesc → Prop} (t : TypeId) : yaa P Q X Esc (underlying t) := by
 refine zed ?_ ?_
 ·simp only [ygh hT]
 ·split
  ·exact yaa.pure _
  ·exact yaa.halt _
theorem zfz (hT : P.toTables = Q.toTables) {Esc : Value → Prop} (t : TypeId) : yaa P Q X Esc (zeroValue t) := by
 refine yaa.bind (zfk hT t) fun i => ?_
 split
 ·exact yaa.pure _
 ·exact yaa.halt _
theorem zet (hT : P.toTables = Q.toTables) {Esc : Nat → Prop} (t : TypeId) : yaa P Q X Esc (sizeOf t) := yaa.bind (zfk hT t) fun _ => yaa.pure _
theorem zcq (hT : P.toTables = Q.toTables) {Esc : Bool → Prop} (t : TypeId) : yaa P Q X Esc (isAgg t) := by
 refine yaa.bind (zfo hT t) fun i => ?_
 split <;> exact yaa.pure _
theorem zaj {Esc : IntKind × Int → Prop} (v : Value) : yaa P Q X Esc (asIntOf v) := by
 unfold asIntOf
 split <;> first | exact yaa.pure _ | exact yaa.halt _
theorem zai {Esc : Int → Prop} (v : Value) : yaa P Q X Esc (asInt v) := yaa.bind (zaj v) fun _ => yaa.pure _
theorem zah {Esc : Bool → Prop} (v : Value) : yaa P Q X Esc (asBool v) := by
 unfold asBool
 split <;> first | exact yaa.pure _ | exact yaa.halt _
theorem zag {Esc : Array Value → Prop} (v : Value) : yaa P Q X Esc (asAgg v) := by
 unfold asAgg
 split <;> first | exact yaa.pure _ | exact yaa.halt _
theorem zdq {Esc : Nat → Prop} (o : Obj) (ho : o.odd = false) : yaa P Q X Esc (newObj o) := yaa.new ho fun _ => yaa.pure _
theorem zep {Esc : Unit → Prop} {r : Nat} {o : Obj} (ho : o.fit = true) : yaa P Q X Esc (setObj r o) := yaa.setObj ho (yaa.pure _)
theorem zdr {Esc : Addr → Prop} (t : TypeId) (c : Array Value) : yaa P Q X Esc (newRow t c) := yaa.bind (zdq _ rfl) fun _ => yaa.pure _
theorem zds {Esc : Addr → Prop} (t : TypeId) (v : Value) : yaa P Q X Esc (newVar t v) := zdr _ _
theorem zbk (hT : P.toTables = Q.toTables) {Esc : TypeId → Prop} (t : TypeId) : yaa P Q X Esc (elemOf t) := by
 refine yaa.bind (zfo hT t) fun i => ?_
 split <;> first | exact yaa.pure _ | exact yaa.halt _
theorem zcx (hT : P.toTables = Q.toTables) {Esc : Array Value → Prop} (a : Addr) (n : Nat) : ∀ i acc, yaa P Q X Esc (loadCellsFrom a i n acc) := by
 induction n with
 |zero => exact fun i acc => yaa.pure _
 |succ n ih => exact fun i acc => yaa.bind (zct hT _ _) fun v => ih _ _
theorem zcw (hT : P.toTables = Q.toTables) {Esc : Array Value → Prop} (a : Addr) (n : Nat) : yaa P Q X Esc (loadCells a n) := zcx hT _ _ _ _
theorem zfd (hT : P.toTables = Q.toTables) {Esc : Unit → Prop} (a : Addr) (l : List Value) : ∀ i, yaa P Q X Esc (storeCells a l i) := by
 induction l with
 |nil => exact fun i => yaa.pure _
 |cons v l ih => exact fun i => yaa.bind (zfb hT _ _ _) fun _ => ih _
theorem zcy (hT : P.toTables = Q.toTables) {Esc : Value → Prop} (t : TypeId) (a : Addr) : yaa P Q X Esc (loadVar t a) := by
 refine yaa.bind (zcq hT t) fun b => ?_
 split
 ·exact yaa.bind (zet hT t) fun n => yaa.bind (zcw hT _ _) fun _ => yaa.pure _
 ·exact zct hT _ _
theorem zfe (hT : P.toTables = Q.toTables) {Esc : Unit → Prop} (t : TypeId) (a : Addr) (v : Value) : yaa P Q X Esc (storeVar t a v) := by
 refine yaa.bind (zet hT t) fun n => ?_
 split
 ·exact yaa.bind (yaa.halt _) fun _ => zfd hT _ _ _
 ·exact zfd hT _ _ _
theorem zec (hT : P.toTables = Q.toTables) {Esc : Value → Prop} (t : TypeId) (cs : Array Value) (off : Nat) : yaa P Q X Esc (part t cs off) := by
 refine yaa.bind (zcq hT t) fun b => ?_
 split
 ·exact yaa.bind (zet hT t) fun n => yaa.pure _
 ·split <;> first | exact yaa.pure _ | exact yaa.halt _
theorem zfl (hT : P.toTables = Q.toTables) {Esc : String → Prop} (t : TypeId) : yaa P Q X Esc (typeStr t) := by
 refine yaa.bind (zfk hT t) fun b => ?_
 dsimp only
 split <;> first | exact yaa.pure _ | exact yaa.halt _
theorem zem (hT : P.toTables = Q.toTables) {α : Type} {Esc : α → Prop} (e : RuntimeError) : yaa P Q X Esc (runtimePanic e : Sem α) := by
 unfold runtimePanic
 refine zed ?_ ?_
 ·cases e <;> simp only [hT, typeHandle]
 ·cases e <;> dsimp only
  all_goals first
   |exact yaa.halt _
   |exact yaa.bind (zbk hT _) fun _ => yaa.bind (zds _ _) fun _ => yaa.halt _
theorem zao (hT : P.toTables = Q.toTables) {α : Type} {Esc : α → Prop} (k : IntKind) (x y : Int) (c : BoundsCode) : yaa P Q X Esc (boundsPanic k x y c : Sem α) := by
 unfold boundsPanic
 dsimp only
 split
 ·exact yaa.bind (yaa.bind (zba _) fun _ => yaa.pure _) fun _ => zem hT _
 ·exact yaa.bind (yaa.pure _) fun _ => zem hT _
theorem zaf (hT : P.toTables = Q.toTables) {Esc : Addr → Prop} (v : Value) : yaa P Q X Esc (asAddr v) := by
 unfold asAddr
 split
 ·exact yaa.pure _
 ·exact zem hT _
 ·exact yaa.halt _
end Go.Sim

namespace Go.Sim
variable {P Q : Program} {X : Nat → Prop}
variable (hT : P.toTables = Q.toTables)
theorem zeq {α : Type} {Esc : α → Prop} {r : Nat} {f : Option (TypeId × Nat) → Sem α} (e : ∀ t n m, f (some (t, n)) = f (some (t, m))) (hk : ∀ x, yaa P Q X Esc (f x)) : yaa P Q X Esc (shape r >>= f) := yaa.shape (k := f) e hk
theorem zck {α : Type} {Esc : α → Prop} {r : Nat} {f : Obj → Sem α} (hd : ∀ o : Obj, o.odd = true → f o = f o.dull ∨ ∀ v, ∃ x v', (f o.dull).run Q v = .halt x v' ∧ ykf x = true) (hk : ∀ o, yaa P Q X Esc (f o)) : yaa P Q X Esc (getObj r >>= f) := yaa.getObj (k := f) hd hk
theorem zdz {Esc : Option (Addr × Bool) → Prop} (r : Nat) : yaa P Q X Esc (numberAt r) := by
 unfold numberAt
 refine zeq (fun _ _ _ => rfl) fun x => ?_
 split
 ·(repeat' first
  |exact yaa.pure _
  |with_reducible assumption
  |((with_reducible refine zck ?_ (fun _ => ?_)); · (intro o ho; cases o <;> first | (cases ho; done) | exact .inl rfl | exact .inr fun v => ⟨_, _, rfl, (by rfl)⟩))
  |split
  |dsimp only)
 ·(repeat' first
  |exact yaa.pure _
  |with_reducible assumption
  |((with_reducible refine zck ?_ (fun _ => ?_)); · (intro o ho; cases o <;> first | (cases ho; done) | exact .inl rfl | exact .inr fun v => ⟨_, _, rfl, (by rfl)⟩))
  |split
  |dsimp only)
theorem zfv {α : Type} {Esc : α → Prop} {r : Nat} {s k : Sem α} (hs : ∀ v, ∃ x v', s.run Q v = .halt x v' ∧ ykf x = true) (hk : yaa P Q X Esc k) : yaa P Q X Esc (viewAt r >>= fun x => if x.isSome then s else k) := by
 show yaa P Q X Esc (Sem.shape r fun x => (if x.isSome then (return none : Sem (Option (Addr × TypeId))) else Sem.getObj r fun o => (match o with
   |.view a t => pure (some (a, t))
   |_ => pure none : Sem (Option (Addr × TypeId)))).bind fun x => if x.isSome then s else k)
 refine yaa.shape (fun _ _ _ => rfl) fun x => ?_
 cases x with
 |some x => exact hk
 |none =>
  refine yaa.getObj (k := fun o => ((match o with
   |.view a t => pure (some (a, t))
   |_ => pure none : Sem (Option (Addr × TypeId)))).bind fun x => if x.isSome then s else k) (fun o ho => ?_) fun o => ?_
  ·cases o <;> first | (cases ho; done) | exact .inl rfl | exact .inr hs
  ·cases o <;> first | exact hk | exact yaa.dead hs
theorem zdx {Esc : Unit → Prop} (a : Addr) : yaa P Q X Esc (noView a) :=
 zfv (fun v => ⟨_, _, rfl, (by rfl)⟩) (yaa.pure ())
theorem zat (hT : P.toTables = Q.toTables) {Esc : Nat → Prop} (a : Addr) : yaa P Q X Esc (byteOf a) := by
 unfold byteOf
 split
 ·(repeat' first
  |exact yaa.pure _
  |exact yaa.halt _
  |with_reducible first | assumption | apply zdx
  |refine yaa.bind ?_ (fun _ => ?_)
  |split
  |dsimp only)
 ·refine zed ?_ ?_
  ·simp only [ycx hT, ygm hT, yci hT, yfc hT]
  ·refine yaa.bind (zdx _) fun _ => ?_
   refine zeq (fun _ _ _ => rfl) fun x => ?_
   (repeat' first
  |exact yaa.pure _
  |exact yaa.halt _
  |with_reducible first | assumption | apply zdx
  |refine yaa.bind ?_ (fun _ => ?_)
  |split
  |dsimp only)
theorem zak {Esc : Unit → Prop} (n : Nat) : yaa P Q X Esc (askRoom n) := by
 unfold askRoom
 split
 ·exact yaa.mark rfl (yaa.pure _)
 ·exact yaa.pure _
end Go.Sim

namespace Go.Sim
variable {P Q : Program} {X : Nat → Prop}
variable (hT : P.toTables = Q.toTables)
theorem zch {α β : Type} {Esc : β → Prop} {f : α → β → Sem (ForInStep β)} (hf : ∀ a b, Sim P Q X (f a b)) (l : List α) : ∀ i, yaa P Q X Esc (forIn l i f) := by
 induction l with
 |nil => intro i; rw [List.forIn_nil]; exact yaa.pure _
 |cons a l ih =>
  intro i
  rw [List.forIn_cons]
  refine yaa.bind (hf a i) fun x => ?_
  cases x with
  |done b => exact yaa.pure _
  |yield b => exact ih b
theorem zcg {α β : Type} {Esc : β → Prop} {f : α → β → Sem (ForInStep β)} (hf : ∀ a b, Sim P Q X (f a b)) {l : Array α} (i : β) : yaa P Q X Esc (forIn l i f) := by
 rw [← Array.forIn_toList]; exact zch hf _ _
theorem zci {β : Type} {Esc : β → Prop} {f : Nat → β → Sem (ForInStep β)} (hf : ∀ a b, Sim P Q X (f a b)) {r : Std.Legacy.Range} (i : β) : yaa P Q X Esc (forIn r i f) := by
 rw [Std.Legacy.Range.forIn_eq_forIn_range']; exact zch hf _ _
theorem zdf {α β : Type} {Esc : List β → Prop} {f : α → Sem β} (hf : ∀ a, Sim P Q X (f a)) (l : List α) : yaa P Q X Esc (l.mapM f) := by
 have h : ∀ (l : List α) (acc : List β), yaa P Q X Esc (List.mapM.loop f l acc) := by
  intro l
  induction l with
  |nil => intro acc; exact yaa.pure _
  |cons a l ih => intro acc; exact yaa.bind (hf a) fun b => ih _
 exact h l []
theorem yaa.of {α : Type} {Esc : α → Prop} {s : Sem α} (h : Sim P Q X s) : yaa P Q X Esc s := by
 intro L w u es hR hL
 have := h L w u es hR hL
 revert this
 generalize s.run Q u = r
 cases r with
 |ok a v' => exact fun q => .inr (q.resolve_left id)
 |halt y v' => exact fun q => q
theorem zaz (hT : P.toTables = Q.toTables) {Esc : Unit → Prop} (b : Bool) (n : Nat) : ∀ t v, yaa P Q X Esc (Instr.checkKey b n t v) := by
 have h : ∀ t v, Sim P Q X (Instr.checkKey b n t v) := by
  induction n with
  |zero => exact fun t v => yaa.halt _
  |succ n ih =>
   intro t v
   unfold Instr.checkKey
   refine yaa.bind (zfo hT _) (fun _ => ?_)
   split
   ·dsimp only
    refine yaa.bind (zfk hT _) (fun _ => ?_)
    split
    ·split
     ·exact yaa.bind (zem hT _) fun _ => yaa.bind (zfl hT _) fun _ => yaa.bind (zem hT _) fun _ => ih _ _
     ·exact yaa.bind (zfl hT _) fun _ => yaa.bind (zem hT _) fun _ => ih _ _
    ·exact ih _ _
   ·refine yaa.bind (zci (fun _ _ => ?_) _) fun _ => yaa.pure _
    exact yaa.bind (zet hT _) fun _ => yaa.bind (zec hT _ _ _) fun _ => yaa.bind (ih _ _) fun _ => yaa.pure _
   ·refine yaa.bind (zcg (fun _ _ => ?_) _) fun _ => yaa.pure _
    split
    ·exact yaa.bind (zec hT _ _ _) fun _ => yaa.bind (ih _ _) fun _ => yaa.pure _
    ·exact yaa.pure _
   all_goals first | exact yaa.pure _ | exact yaa.halt _
 exact fun t v => yaa.of (h t v)
theorem zam {Esc : Addr × Bool → Prop} (a : Addr) : yaa P Q X Esc (behindNumber a) := by
 unfold behindNumber
 (repeat' first
  |exact yaa.pure _
  |with_reducible first | assumption | apply zdz
  |refine yaa.bind ?_ (fun _ => ?_)
  |split
  |dsimp only)
def yza (w : World) (a : Addr) : Bool := if w.frozen? a then true else match w.shape? a.block with | some (_, n) => w.frozen? { block := a.block, off := n } | none => false
theorem ykn (P : Program) (a : Addr) (w : World) (es : Array Event) : (stringish a).runT P w es = (.ok (yza w a) w, es) := by
 show Sem.runT P (Sem.frozen a fun b => _) w es = _
 simp only [Sem.runT, yza]
 cases w.frozen? a
 ·show Sem.runT P (Sem.shape a.block fun x => _) w es = _
  simp only [Sem.runT]
  cases w.shape? a.block with
  |none => rfl
  |some x => rfl
 ·rfl
theorem ymc (P : Program) (a : Addr) (w : World) : (stringish a).run P w = .ok (yza w a) w := by
 show Sem.run P (Sem.frozen a fun b => _) w = _
 simp only [Sem.run, yza]
 cases w.frozen? a
 ·show Sem.run P (Sem.shape a.block fun x => _) w = _
  simp only [Sem.run]
  cases w.shape? a.block with
  |none => rfl
  |some x => rfl
 ·rfl
theorem Rel.str {L : Lim} {w v : World} (h : Rel X L w v) (a : Addr) : yza v a = yza w a := by
 by_cases hX : X a.block
 ·obtain ⟨c, t, hw, hv⟩ := h.bare _ hX
  simp [yza, World.frozen?, World.shape?, hw, hv]
 ·have e : v.shape? a.block = w.shape? a.block := h.shapeN hX
  unfold yza
  rw [h.frozen, e]
  cases w.shape? a.block with
  |none => rfl
  |some x => simp only [h.frozen]
theorem Rel.strX {L : Lim} {w v : World} (h : Rel X L w v) {a : Addr} (hX : X a.block) : yza w a = false := by
 obtain ⟨c, t, hw, hv⟩ := h.bare _ hX
 simp [yza, World.frozen?, World.shape?, hw]
def oneV (w : World) (a b : Addr) : Bool := (yza w a && yza w b) || (yza w a && ((w.shape? a.block) matches some (_, 0))) || (yza w b && ((w.shape? b.block) matches some (_, 0)))
theorem yyg (P : Program) (a b : Addr) (w : World) : (mayBeOne a b).run P w = .ok (oneV w a b) w := by
 show Sem.run P ((stringish a).bind fun sa => (stringish b).bind fun sb => _) w = _
 rw [run_bind, ymc]
 dsimp only
 rw [run_bind, ymc]
 rfl
theorem yvh (P : Program) (a b : Addr) (w : World) (es : Array Event) : (mayBeOne a b).runT P w es = (.ok (oneV w a b) w, es) := by
 show Sem.runT P ((stringish a).bind fun sa => (stringish b).bind fun sb => _) w es = _
 rw [yeq, ykn]
 dsimp only
 rw [yeq, ykn]
 rfl
theorem zdj {Esc : Bool → Prop} (a b : Addr) : yaa P Q X Esc (mayBeOne a b) := by
 intro L w v es h
 rw [yyg, yvh]
 have e : oneV v a b = oneV w a b := by
  unfold oneV
  rw [h.str, h.str]
  have k : ∀ c : Addr, (yza w c && ((v.shape? c.block) matches some (_, 0))) = (yza w c && ((w.shape? c.block) matches some (_, 0))) := by
   intro c
   by_cases hX : X c.block
   ·rw [h.strX hX]; rfl
   ·have : v.shape? c.block = w.shape? c.block := h.shapeN hX
    rw [this]
  rw [k a, k b]
 exact fun _ => .inr ⟨w, #[], by rw [e]; simp, h, .refl X w, by simp⟩
theorem zen {Esc : Bool → Prop} (a b : Addr) : yaa P Q X Esc (sameAddr a b) := by
 unfold sameAddr
 (repeat' first
  |exact yaa.pure _
  |exact yaa.halt _
  |with_reducible first | assumption | apply zba | apply zdx | apply zcj | apply zdj
  |refine yaa.bind ?_ (fun _ => ?_)
  |split
  |dsimp only)
theorem zeo {Esc : Bool → Prop} (a b : Option Addr) : yaa P Q X Esc (samePointer a b) := by
 unfold samePointer
 (repeat' first
  |exact yaa.pure _
  |with_reducible first | assumption | apply zen
  |split
  |dsimp only)
theorem uid_eq (hT : P.toTables = Q.toTables) (t : TypeId) : P.underlyingId t = Q.underlyingId t := by unfold Program.underlyingId; rw [hT]
theorem ytn (hT : P.toTables = Q.toTables) (n : Nat) : ∀ t u, P.alikeButTags n t u = Q.alikeButTags n t u := by
 induction n with
 |zero => intro t u; rfl
 |succ n ih =>
  intro t u
  unfold Program.alikeButTags
  simp only [hT, ih]
theorem own_eq (hT : P.toTables = Q.toTables) (c : String × TypeId) : P.ownRow c = Q.ownRow c := by unfold Program.ownRow; simp only [hT, ygh hT]
theorem packed_eq (hT : P.toTables = Q.toTables) (t : TypeId) : P.packed t = Q.packed t := by
 unfold Program.packed Program.packedAs
 simp only [hT, own_eq hT, ygh hT, ytn hT, uid_eq hT, yci hT]
theorem hp_eq (hT : P.toTables = Q.toTables) (d : Nat) : ∀ t, P.holdsPacked d t = Q.holdsPacked d t := by
 induction d with
 |zero => intro t; rfl
 |succ d ih =>
  intro t
  unfold Program.holdsPacked
  simp only [packed_eq hT, ygh hT, ih]
theorem sh_eq (hT : P.toTables = Q.toTables) (t : TypeId) : P.stoodInHeld t = Q.stoodInHeld t := by
 unfold Program.stoodInHeld Program.stoodInAs
 simp only [hT, ygh hT, ytn hT, uid_eq hT, yci hT]
theorem eg_eq (hT : P.toTables = Q.toTables) (d : Nat) : ∀ t, P.eqGuardType d t = Q.eqGuardType d t := by
 induction d with
 |zero => intro t; rfl
 |succ d ih =>
  intro t
  unfold Program.eqGuardType
  simp only [ygh hT, ih]
theorem zbq (hT : P.toTables = Q.toTables) (n : Nat) : ∀ t x y, Sim P Q X (Op.equalIn n t x y) := by
 induction n with
 |zero => exact fun t x y => yaa.halt _
 |succ n ih =>
  intro t x y
  unfold Op.equalIn
  refine yaa.bind (zfo hT _) (fun _ => ?_)
  split
  case h_5 =>
   refine yaa.bind (zam _) fun _ => yaa.bind (zam _) fun _ => ?_
   dsimp only
   split
   ·refine zed (by simp only [hT]) ?_
    (repeat' first
  |exact yaa.pure _
  |exact yaa.halt _
  |with_reducible first | assumption | apply ih | apply zfk | apply zfo | apply zet | apply zem | apply zec | apply zfl | apply zba | apply zat | apply zam | apply zen | apply zeo
  |refine yaa.bind ?_ (fun _ => ?_)
  |refine zcg (fun _ _ => ?_) _
  |refine zci (fun _ _ => ?_) _
  |split
  |dsimp only)
   ·refine zed (by simp only [hT]) ?_
    (repeat' first
  |exact yaa.pure _
  |exact yaa.halt _
  |with_reducible first | assumption | apply ih | apply zfk | apply zfo | apply zet | apply zem | apply zec | apply zfl | apply zba | apply zat | apply zam | apply zen | apply zeo
  |refine yaa.bind ?_ (fun _ => ?_)
  |refine zcg (fun _ _ => ?_) _
  |refine zci (fun _ _ => ?_) _
  |split
  |dsimp only)
  case h_19 =>
   split
   ·exact yaa.pure _
   ·refine yaa.bind (zfk hT _) fun _ => ?_
    dsimp only
    split
    ·refine zed (by simp only [hp_eq hT]) ?_
     refine zed (by simp only [yci hT]) ?_
     (repeat' first
  |exact yaa.pure _
  |exact yaa.halt _
  |with_reducible first | assumption | apply ih | apply zfk | apply zfo | apply zet | apply zem | apply zec | apply zfl | apply zba | apply zat | apply zam | apply zen | apply zeo
  |refine yaa.bind ?_ (fun _ => ?_)
  |refine zcg (fun _ _ => ?_) _
  |refine zci (fun _ _ => ?_) _
  |split
  |dsimp only)
    ·exact ih _ _ _
  case h_20 =>
   refine zed (by simp only [sh_eq hT]) ?_
   (repeat' first
  |exact yaa.pure _
  |exact yaa.halt _
  |with_reducible first | assumption | apply ih | apply zfk | apply zfo | apply zet | apply zem | apply zec | apply zfl | apply zba | apply zat | apply zam | apply zen | apply zeo
  |refine yaa.bind ?_ (fun _ => ?_)
  |refine zcg (fun _ _ => ?_) _
  |refine zci (fun _ _ => ?_) _
  |split
  |dsimp only)
  all_goals (repeat' first
  |exact yaa.pure _
  |exact yaa.halt _
  |with_reducible first | assumption | apply ih | apply zfk | apply zfo | apply zet | apply zem | apply zec | apply zfl | apply zba | apply zat | apply zam | apply zen | apply zeo
  |refine yaa.bind ?_ (fun _ => ?_)
  |refine zcg (fun _ _ => ?_) _
  |refine zci (fun _ _ => ?_) _
  |split
  |dsimp only)
end Go.Sim

namespace Go.Sim
variable {P Q : Program} {X : Nat → Prop}
variable (hT : P.toTables = Q.toTables)
theorem zbp (hT : P.toTables = Q.toTables) {Esc : Bool → Prop} (t : TypeId) (x y : Value) : yaa P Q X Esc (Op.equal t x y) := (zbq hT _ _ _ _).of
theorem zbo (hT : P.toTables = Q.toTables) (n : Nat) : ∀ t x y, Sim P Q X (Op.eqGuardIn n t x y) := by
 induction n with
 |zero => exact fun t x y => yaa.halt _
 |succ n ih =>
  intro t x y
  unfold Op.eqGuardIn
  (repeat' first
  |exact yaa.pure _
  |exact yaa.halt _
  |with_reducible first | assumption | apply ih | apply zfo | apply zet | apply zec
  |refine yaa.bind ?_ (fun _ => ?_)
  |refine zcg (fun _ _ => ?_) _
  |refine zci (fun _ _ => ?_) _
  |split
  |dsimp only)
theorem zbn (hT : P.toTables = Q.toTables) {Esc : Unit → Prop} (op : BinOp) (t : TypeId) (x y : Operand) (a b : Value) : yaa P Q X Esc (eqGuard op t x y a b) := by
 unfold eqGuard
 split <;> simp only [Bool.not_true, Bool.not_false, Bool.false_eq_true, if_false, if_true]
 case h_3 => exact yaa.pure _
 all_goals
  split
  ·(repeat' first
  |exact yaa.pure _
  |exact yaa.halt _
  |with_reducible first | assumption | apply zbo
  |refine yaa.bind ?_ (fun _ => ?_)
  |split
  |dsimp only)
  ·refine zed (by simp only [eg_eq hT]) ?_
   refine zed (by simp only [yci hT]) ?_
   (repeat' first
  |exact yaa.pure _
  |exact yaa.halt _
  |with_reducible first | assumption | apply zbo
  |refine yaa.bind ?_ (fun _ => ?_)
  |split
  |dsimp only)
  ·exact yaa.pure _
theorem zbz (hT : P.toTables = Q.toTables) (t : TypeId) (k : Value) (l : List MapEntry) : ∀ i, Sim P Q X (Instr.findAsking t k l i) := by
 induction l with
 |nil => exact fun i => yaa.pure _
 |cons e l ih =>
  intro i
  unfold Instr.findAsking
  (repeat' first
  |exact yaa.pure _
  |with_reducible first | assumption | apply ih | apply zbp
  |refine yaa.bind ?_ (fun _ => ?_)
  |split
  |dsimp only)
end Go.Sim

namespace Go.Sim
variable {P Q : Program} {X : Nat → Prop}
variable (hT : P.toTables = Q.toTables)
theorem zcs {Esc : Nat → Prop} (v : Value) : yaa P Q X Esc (Builtin.lenOf v) := by
 unfold Builtin.lenOf
 (repeat' first
  |exact yaa.pure _
  |exact yaa.halt _
  |with_reducible assumption
  |split
  |dsimp only)
theorem zca (hT : P.toTables = Q.toTables) {Esc : Array Value → Prop} (a b : Nat) (v : Value) : yaa P Q X Esc (Builtin.firstCells a b v) := by
 unfold Builtin.firstCells
 (repeat' first
  |exact yaa.pure _
  |exact yaa.halt _
  |with_reducible first | assumption | apply zcw
  |split
  |dsimp only)
def yor (Q : Program) {α : Type} (s : Sem α) : Prop := ∀ v, ∃ b, s.run Q v = .ok b v
theorem yor.pure {α : Type} (a : α) : yor Q (Pure.pure a : Sem α) := fun v => ⟨a, rfl⟩
theorem yor.bind {α β : Type} {s : Sem α} {f : α → Sem β} (h : yor Q s) (hf : ∀ a, yor Q (f a)) : yor Q (s >>= f) := by
 intro v
 obtain ⟨b, hb⟩ := h v
 obtain ⟨c, hc⟩ := hf b v
 exact ⟨c, by show Sem.run Q (s.bind f) v = _; rw [run_bind, hb]; exact hc⟩
theorem reads_holds (a : Addr) (n : Nat) : yor Q (Builtin.holdsCells a n) := by
 intro v
 show ∃ b, Sem.run Q (Sem.shape a.block fun x => _) v = _
 simp only [Sem.run]
 cases v.shape? a.block <;> exact ⟨_, rfl⟩
theorem yxs (a : Addr) : yor Q (frozen a) := fun v => ⟨_, rfl⟩
theorem reads_share (s l n : Nat) (a : Option Addr) (x : Value) : yor Q (Builtin.mayShare s l n a x) := by
 unfold Builtin.mayShare
 repeat' first
  |exact yor.pure _
  |exact reads_holds _ _
  |exact yxs _
  |refine yor.bind ?_ (fun _ => ?_)
  |split
  |dsimp only
theorem zes {β : Type} {Esc : β → Prop} {s l n : Nat} {a : Option Addr} {x : Value} {f : Bool → Sem β} (h : ∀ b v, ∃ x v', (f b).run Q v = .halt x v' ∧ ykf x = true) : yaa P Q X Esc (Builtin.mayShare s l n a x >>= f) := by
 refine yaa.dead fun v => ?_
 obtain ⟨b, hb⟩ := reads_share (Q := Q) s l n a x v
 obtain ⟨z, v', e, hz⟩ := h b v
 exact ⟨z, v', by show Sem.run Q ((Builtin.mayShare s l n a x).bind f) v = _; rw [run_bind, hb]; exact e, hz⟩
theorem zcr (hT : P.toTables = Q.toTables) {Esc : Value → Prop} (ts : Array TypeId) (t : TypeId) (x : Array Value) : yaa P Q X Esc (Builtin.len_ ts t x) := by
 unfold Builtin.len_
 (repeat' first
  |exact yaa.pure _
  |exact yaa.halt _
  |with_reducible first | assumption | apply zfo
  |((with_reducible refine zck ?_ (fun _ => ?_)); · (intro o ho; cases o <;> first | (cases ho; done) | exact .inl rfl | exact .inr fun v => ⟨_, _, rfl, (by rfl)⟩))
  |refine yaa.bind ?_ (fun _ => ?_)
  |split
  |dsimp only)
theorem zay (hT : P.toTables = Q.toTables) {Esc : Value → Prop} (ts : Array TypeId) (t : TypeId) (x : Array Value) : yaa P Q X Esc (Builtin.cap_ ts t x) := by
 unfold Builtin.cap_
 (repeat' first
  |exact yaa.pure _
  |exact yaa.halt _
  |with_reducible first | assumption | apply zfo
  |((with_reducible refine zck ?_ (fun _ => ?_)); · (intro o ho; cases o <;> first | (cases ho; done) | exact .inl rfl | exact .inr fun v => ⟨_, _, rfl, (by rfl)⟩))
  |refine yaa.bind ?_ (fun _ => ?_)
  |split
  |dsimp only)
theorem zbh (hT : P.toTables = Q.toTables) {Esc : Value → Prop} (ts : Array TypeId) (t : TypeId) (x : Array Value) : yaa P Q X Esc (Builtin.copy_ ts t x) := by
 unfold Builtin.copy_
 (repeat' first
  |exact yaa.pure _
  |exact yaa.halt _
  |with_reducible first | assumption | apply zfo | apply zet | apply zfd | apply zcs | apply zca
  |refine yaa.bind ?_ (fun _ => ?_)
  |split
  |dsimp only)
theorem zbj (hT : P.toTables = Q.toTables) {Esc : Value → Prop} (ts : Array TypeId) (t : TypeId) (x : Array Value) : yaa P Q X Esc (Builtin.delete_ ts t x) := by
 unfold Builtin.delete_
 (repeat' first
  |exact yaa.pure _
  |exact yaa.halt _
  |with_reducible first | assumption | apply zfo | apply zaz | apply zbz
  |((with_reducible refine zep ?_); rfl)
  |((with_reducible refine zck ?_ (fun _ => ?_)); · (intro o ho; cases o <;> first | (cases ho; done) | exact .inl rfl | exact .inr fun v => ⟨_, _, rfl, (by rfl)⟩))
  |unfold Instr.findKey
  |refine yaa.bind ?_ (fun _ => ?_)
  |split
  |dsimp only)
theorem zbb (hT : P.toTables = Q.toTables) {Esc : Value → Prop} (ts : Array TypeId) (t : TypeId) (x : Array Value) : yaa P Q X Esc (Builtin.clear_ ts t x) := by
 unfold Builtin.clear_
 (repeat' first
  |exact yaa.pure _
  |exact yaa.halt _
  |with_reducible first | assumption | apply zfo | apply zfz | apply zfd
  |((with_reducible refine zep ?_); rfl)
  |((with_reducible refine zck ?_ (fun _ => ?_)); · (intro o ho; cases o <;> first | (cases ho; done) | exact .inl rfl | exact .inr fun v => ⟨_, _, rfl, (by rfl)⟩))
  |refine yaa.bind ?_ (fun _ => ?_)
  |split
  |dsimp only)
end Go.Sim

namespace Go.Sim
variable {P Q : Program} {X : Nat → Prop}
variable (hT : P.toTables = Q.toTables)
theorem zac (hT : P.toTables = Q.toTables) {Esc : Value → Prop} (ts : Array TypeId) (t : TypeId) (x : Array Value) : yaa P Q X Esc (Builtin.append_ ts t x) := by
 unfold Builtin.append_
 split
 ·refine yaa.bind (zfo hT _) fun d => ?_
  split
  ·split
   ·refine yaa.bind (zet hT _) fun size => ?_
    extract_lets -underBinder +onlyGivenNames jp1
    have h1 : ∀ z, yaa P Q X Esc (jp1 z) := by
     intro z
     unfold jp1
     extract_lets -underBinder +onlyGivenNames jp2
     have h2 : ∀ n, yaa P Q X Esc (jp2 n) := by
      intro n
      unfold jp2
      extract_lets -underBinder +onlyGivenNames app need
      have ha : Sim P Q X app := by
       unfold app
       (repeat' first
  |exact yaa.pure _
  |exact yaa.halt _
  |with_reducible first | assumption | apply zfk | apply zfo | apply zfz | apply zet | apply zai | apply zem | apply zdr | apply zba | apply zfd | apply zcs | apply zca | apply zak | refine zef ?_
  |((with_reducible refine zes ?_); · (intro b v; cases b <;> exact ⟨_, _, rfl, (by rfl)⟩))
  |refine yaa.bind ?_ (fun _ => ?_)
  |split
  |dsimp only)
      clear_value app
      split
      ·(repeat' first
  |exact yaa.pure _
  |exact yaa.halt _
  |with_reducible first | assumption | apply zfk | apply zfo | apply zfz | apply zet | apply zai | apply zem | apply zdr | apply zba | apply zfd | apply zcs | apply zca | apply zak | refine zef ?_
  |((with_reducible refine zes ?_); · (intro b v; cases b <;> exact ⟨_, _, rfl, (by rfl)⟩))
  |refine yaa.bind ?_ (fun _ => ?_)
  |split
  |dsimp only)
      ·refine yaa.bind (zfk hT _) fun ti => ?_
       extract_lets -underBinder +onlyGivenNames jp3
       have h3 : ∀ u, yaa P Q X Esc (jp3 u) := by
        intro u
        unfold jp3
        refine yaa.bind (zfk hT _) fun tj => ?_
        extract_lets -underBinder +onlyGivenNames jp4
        have h4 : ∀ u, yaa P Q X Esc (jp4 u) := by
         intro u
         unfold jp4
         (repeat' first
  |exact yaa.pure _
  |exact yaa.halt _
  |with_reducible first | assumption | apply zfk | apply zfo | apply zfz | apply zet | apply zai | apply zem | apply zdr | apply zba | apply zfd | apply zcs | apply zca | apply zak | refine zef ?_
  |((with_reducible refine zes ?_); · (intro b v; cases b <;> exact ⟨_, _, rfl, (by rfl)⟩))
  |refine yaa.bind ?_ (fun _ => ?_)
  |split
  |dsimp only)
        clear_value jp4
        split
        ·refine yaa.bind ?_ fun u => h4 _
         (repeat' first
  |exact yaa.pure _
  |exact yaa.halt _
  |with_reducible first | assumption | apply zfk | apply zfo | apply zfz | apply zet | apply zai | apply zem | apply zdr | apply zba | apply zfd | apply zcs | apply zca | apply zak | refine zef ?_
  |((with_reducible refine zes ?_); · (intro b v; cases b <;> exact ⟨_, _, rfl, (by rfl)⟩))
  |refine yaa.bind ?_ (fun _ => ?_)
  |split
  |dsimp only)
        ·exact h4 _
       clear_value jp3
       split
       ·exact yaa.bind (zem hT _) fun u => h3 _
       ·exact h3 _
     clear_value jp2
     split
     ·refine yaa.bind (zai _) fun i => ?_
      extract_lets -underBinder +onlyGivenNames l jp5
      have h5 : ∀ u, yaa P Q X Esc (jp5 u) := by
       intro u
       unfold jp5
       refine yaa.bind (zfk hT _) fun tk => ?_
       extract_lets -underBinder +onlyGivenNames jp6
       have h6 : ∀ u, yaa P Q X Esc (jp6 u) := fun u => h2 _
       clear_value jp6
       split
       ·exact yaa.bind (zba _) fun _ => yaa.bind (zem hT _) fun _ => h6 _
       ·exact h6 _
      clear_value jp5
      split
      ·exact yaa.bind (zem hT _) fun _ => h5 _
      ·exact h5 _
     ·exact yaa.bind (zcs _) fun n => h2 _
    clear_value jp1
    (repeat' first
  |exact yaa.pure _
  |exact yaa.halt _
  |with_reducible first | assumption | apply zfk | apply zfo | apply zfz | apply zet | apply zai | apply zem | apply zdr | apply zba | apply zfd | apply zcs | apply zca | apply zak | refine zef ?_
  |((with_reducible refine zes ?_); · (intro b v; cases b <;> exact ⟨_, _, rfl, (by rfl)⟩))
  |refine yaa.bind ?_ (fun _ => ?_)
  |split
  |dsimp only)
    all_goals exact h1 _
   ·(repeat' first
  |exact yaa.pure _
  |exact yaa.halt _
  |with_reducible first | assumption | apply zfk | apply zfo | apply zfz | apply zet | apply zai | apply zem | apply zdr | apply zba | apply zfd | apply zcs | apply zca | apply zak | refine zef ?_
  |((with_reducible refine zes ?_); · (intro b v; cases b <;> exact ⟨_, _, rfl, (by rfl)⟩))
  |refine yaa.bind ?_ (fun _ => ?_)
  |split
  |dsimp only)
  ·(repeat' first
  |exact yaa.pure _
  |exact yaa.halt _
  |with_reducible first | assumption | apply zfk | apply zfo | apply zfz | apply zet | apply zai | apply zem | apply zdr | apply zba | apply zfd | apply zcs | apply zca | apply zak | refine zef ?_
  |((with_reducible refine zes ?_); · (intro b v; cases b <;> exact ⟨_, _, rfl, (by rfl)⟩))
  |refine yaa.bind ?_ (fun _ => ?_)
  |split
  |dsimp only)
 ·(repeat' first
  |exact yaa.pure _
  |exact yaa.halt _
  |with_reducible first | assumption | apply zfk | apply zfo | apply zfz | apply zet | apply zai | apply zem | apply zdr | apply zba | apply zfd | apply zcs | apply zca | apply zak | refine zef ?_
  |((with_reducible refine zes ?_); · (intro b v; cases b <;> exact ⟨_, _, rfl, (by rfl)⟩))
  |refine yaa.bind ?_ (fun _ => ?_)
  |split
  |dsimp only)
end Go.Sim

namespace Go.Sim
variable {P Q : Program} {X : Nat → Prop}
theorem zad {Esc : Nat → Prop} (op : BinOp) (k : FloatKind) (x y : Nat) : yaa P Q X Esc (Op.Complex.arith op k x y) := by
 unfold Op.Complex.arith Op.floatArith
 repeat' first | exact yaa.pure _ | exact yaa.halt _ | with_reducible apply zba | refine yaa.bind ?_ (fun _ => ?_) | split | dsimp only
theorem zbc {Esc : Bool → Prop} (op : BinOp) (k : FloatKind) (x y : Nat) : yaa P Q X Esc (Op.Complex.cmp op k x y) := by
 unfold Op.Complex.cmp Op.floatCmp
 repeat' first | with_reducible apply zah | exact yaa.pure _ | exact yaa.halt _ | refine yaa.bind ?_ (fun _ => ?_) | split | dsimp only
theorem zbf {Esc : Nat → Prop} (k : FloatKind) (x : Nat) (l : FloatKind) : yaa P Q X Esc (Op.Complex.conv k x l) := by
 unfold Op.Complex.conv Conv.floatToFloat
 repeat' first | exact yaa.pure _ | exact yaa.halt _ | with_reducible apply zba | refine yaa.bind ?_ (fun _ => ?_) | split | dsimp only
theorem zbd {Esc : Value → Prop} (op : BinOp) (k : FloatKind) (a b c d : Nat) : yaa P Q X Esc (Op.complexOp op k a b c d) := by
 unfold Op.complexOp Op.Complex.product Op.Complex.quotient Op.Complex.corrected Op.Complex.add Op.Complex.sub Op.Complex.mul Op.Complex.quo
 cases op <;> dsimp only
 all_goals
  repeat' first | (with_reducible first | apply zad | apply zbc | apply zbf | apply zfh | apply zee) | refine yaa.bind ?_ (fun _ => ?_) | split | dsimp only
end Go.Sim

namespace Go.Sim
variable {P Q : Program} {X : Nat → Prop}
variable (hT : P.toTables = Q.toTables)
theorem zdm {Esc : Value → Prop} (x y : Value) : yaa P Q X Esc (Builtin.min2 x y) := by
 (repeat' first
  |exact yaa.pure _
  |exact yaa.halt _
  |with_reducible first | assumption | apply zba
  |unfold Builtin.min2 | unfold Op.intCmp | unfold Op.floatCmp | unfold Op.stringOp | unfold Op.floatArith
  |refine yaa.bind ?_ (fun _ => ?_)
  |split
  |dsimp only)
theorem zdi {Esc : Value → Prop} (x y : Value) : yaa P Q X Esc (Builtin.max2 x y) := by
 (repeat' first
  |exact yaa.pure _
  |exact yaa.halt _
  |with_reducible first | assumption | apply zba
  |unfold Builtin.max2 | unfold Op.intCmp | unfold Op.floatCmp | unfold Op.stringOp | unfold Op.floatArith
  |refine yaa.bind ?_ (fun _ => ?_)
  |split
  |dsimp only)
theorem zcd {β : Type} {f : β → Value → Sem β} (hf : ∀ a b, Sim P Q X (f a b)) (l : List Value) : ∀ a, Sim P Q X (l.foldlM f a) := by
 induction l with
 |nil => exact fun a => yaa.pure _
 |cons b l ih => exact fun a => yaa.bind (hf a b) fun c => ih c
theorem zdl {Esc : Value → Prop} (ts : Array TypeId) (t : TypeId) (x : Array Value) : yaa P Q X Esc (Builtin.min_ ts t x) := by
 unfold Builtin.min_
 split
 ·exact yaa.halt _
 ·exact (zcd (fun _ _ => zdm _ _) _ _).of
theorem zdh {Esc : Value → Prop} (ts : Array TypeId) (t : TypeId) (x : Array Value) : yaa P Q X Esc (Builtin.max_ ts t x) := by
 unfold Builtin.max_
 split
 ·exact yaa.halt _
 ·exact (zcd (fun _ _ => zdi _ _) _ _).of
theorem zcb {Esc : Value → Prop} (k : FloatKind) (b : Nat) (l : FloatKind) : yaa P Q X Esc (Conv.floatToFloat k b l) := by
 unfold Conv.floatToFloat
 (repeat' first
  |exact yaa.pure _
  |with_reducible first | assumption | apply zba
  |refine yaa.bind ?_ (fun _ => ?_)
  |split
  |dsimp only)
theorem zau (hT : P.toTables = Q.toTables) {Esc : Value → Prop} (x : Value) : yaa P Q X Esc (Conv.bytesToString x) := by
 unfold Conv.bytesToString
 (repeat' first
  |exact yaa.pure _
  |exact yaa.halt _
  |with_reducible first | assumption | apply zcw
  |refine yaa.bind ?_ (fun _ => ?_)
  |refine zcg (fun _ _ => ?_) _
  |split
  |dsimp only)
theorem zel (hT : P.toTables = Q.toTables) {Esc : Value → Prop} (x : Value) : yaa P Q X Esc (Conv.runesToString x) := by
 unfold Conv.runesToString
 (repeat' first
  |exact yaa.pure _
  |exact yaa.halt _
  |with_reducible first | assumption | apply zcw
  |refine yaa.bind ?_ (fun _ => ?_)
  |refine zcg (fun _ _ => ?_) _
  |split
  |dsimp only)
theorem zfg {Esc : Value → Prop} (t : TypeId) (x : ByteArray) : yaa P Q X Esc (Conv.stringToRunes t x) := by
 unfold Conv.stringToRunes
 (repeat' first
  |exact yaa.pure _
  |with_reducible first | assumption | apply zdr | apply zba
  |refine yaa.bind ?_ (fun _ => ?_)
  |split
  |dsimp only)
theorem zcc {Esc : Value → Prop} (k : FloatKind) (b : Nat) (l : IntKind) : yaa P Q X Esc (Conv.floatToInt k b l) := by
 unfold Conv.floatToInt
 (repeat' first
  |exact yaa.pure _
  |with_reducible first | assumption | apply zba
  |refine yaa.bind ?_ (fun _ => ?_)
  |split
  |dsimp only)
theorem zbe {Esc : Value → Prop} (k : FloatKind) (a b : Nat) (l : FloatKind) : yaa P Q X Esc (Conv.complexToComplex k a b l) := by
 unfold Conv.complexToComplex
 (repeat' first
  |exact yaa.pure _
  |exact yaa.halt _
  |with_reducible first | assumption | apply zcb
  |refine yaa.bind ?_ (fun _ => ?_)
  |split
  |dsimp only)
theorem zfi (hT : P.toTables = Q.toTables) {Esc : Nat × Nat → Prop} (a b : Addr) : yaa P Q X Esc (Op.twoPlaces a b) := by
 unfold Op.twoPlaces
 refine zed (by simp only [hT]) ?_
 (repeat' first
  |exact yaa.pure _
  |exact yaa.halt _
  |with_reducible first | assumption | apply zat
  |refine yaa.bind ?_ (fun _ => ?_)
  |split
  |dsimp only)
theorem zaa (hT : P.toTables = Q.toTables) {Esc : Value → Prop} (k : IntKind) (a : Addr) (n : Int) : yaa P Q X Esc (Op.addrMod k a n) := by
 unfold Op.addrMod
 refine zeq (fun _ _ _ => rfl) fun x => ?_
 (repeat' first
  |exact yaa.pure _
  |exact yaa.halt _
  |with_reducible first | assumption | apply zfk | apply zat
  |refine yaa.bind ?_ (fun _ => ?_)
  |split
  |dsimp only)
theorem yaa.shapeX {α : Type} {Esc : α → Prop} {r : Nat} {k : Option (TypeId × Nat) → Sem α} (hX : ∀ t v, ∃ x v', (k (some (t, 0))).run Q v = .halt x v' ∧ ykf x = true) (hk : ∀ x, yaa P Q X Esc (k x)) : yaa P Q X Esc (Go.shape r >>= k) := by
 intro L w v es h
 show ybj X L Esc w es ((Sem.shape r k).runT P w es) ((Sem.shape r k).run Q v)
 simp only [Sem.run, Sem.runT]
 by_cases hx : X r
 ·obtain ⟨c, t, hw, hv⟩ := h.bare r hx
  simp only [World.shape?, hv]
  obtain ⟨x, v', e, hn⟩ := hX t v
  rw [show (#[] : Array Value).size = 0 from rfl, e]
  exact .halt hn
 ·have : v.shape? r = w.shape? r := h.shapeN hx
  rw [this]
  exact hk _ _ _ _ _ h
theorem cab_nil (p : Program) (d : Nat) (e : TypeId) (off : Nat) (b : Int) : cellAtBytes p d e 0 off b = none := by
 unfold cellAtBytes
 dsimp only
 split
 ·rfl
 ·cases byteOfCell p d e (off % p.cellsOf e) with
  |none => rfl
  |some here =>
   show (if _ then _ else _) = _
   rw [if_pos]
   ·rfl
   ·simp only [Nat.zero_mul, Bool.or_eq_true, decide_eq_true_eq, Int.ofNat_eq_natCast]
    omega
theorem cob_eq (hT : P.toTables = Q.toTables) (d : Nat) : ∀ t b, cellOfByte P d t b = cellOfByte Q d t b := by
 induction d with
 |zero => intro t b; rfl
 |succ d ih =>
  intro t b
  unfold cellOfByte
  simp only [ygh hT, ycx hT, ygm hT, ih]
theorem cab_eq (hT : P.toTables = Q.toTables) (d : Nat) (e : TypeId) (c off : Nat) (b : Int) : cellAtBytes P d e c off b = cellAtBytes Q d e c off b := by
 unfold cellAtBytes
 simp only [ycx hT, ygm hT, yfc hT, cob_eq hT]
theorem zfp (hT : P.toTables = Q.toTables) {Esc : Value → Prop} (ts : Array TypeId) (t : TypeId) (x : Array Value) : yaa P Q X Esc (Builtin.unsafeAdd_ ts t x) := by
 have tail : ∀ (ptr : Option Addr) (n : Int), yaa P Q X Esc (match ptr with
   |some a => Go.shape a.block >>= fun s => match s with
    |some (e, cells) => program >>= fun p => match cellAtBytes p p.depth e (cells / p.cellsOf e) a.off n with
     |some off => pure (.pointer (some { a with off }))
     |none => unsupported (.unsafePointer "Add")
    |_ => unsupported (.unsafePointer "Add")
   |_ => unsupported (.unsafePointer "Add")) := by
  intro ptr n
  split
  ·refine yaa.shapeX (fun t v => ?_) fun s => ?_
   ·refine ⟨.unsupported (.unsafePointer "Add"), v, ?_, rfl⟩
    show Sem.run Q (Sem.program fun p => _) v = _
    simp only [Sem.run, Nat.zero_div, cab_nil]
    rfl
   ·split
    ·refine zed (by simp only [cab_eq hT, ycx hT, yci hT]) ?_
     (repeat' first
  |exact yaa.pure _
  |exact yaa.halt _
  |with_reducible first | assumption | apply zai
  |refine yaa.bind ?_ (fun _ => ?_)
  |split
  |dsimp only)
    ·exact yaa.halt _
  ·exact yaa.halt _
 rcases x with ⟨_ | ⟨v, _ | ⟨l, _ | ⟨_, _⟩⟩⟩⟩ <;> first | exact yaa.halt _ | skip
 cases v <;> first | exact yaa.halt _ | skip
 next ptr =>
 refine yaa.bind (zai l) fun n => ?_
 dsimp only
 split
 ·split
  ·exact zfv (fun v => ⟨_, _, rfl, (by rfl)⟩) (yaa.pure _)
  ·exact yaa.halt _
 ·split
  ·exact yaa.bind (yaa.halt _) fun _ => tail ptr n
  ·exact tail ptr n
end Go.Sim

namespace Go.Sim
variable {P Q : Program} {X : Nat → Prop}
variable (hT : P.toTables = Q.toTables)
theorem zdn (hT : P.toTables = Q.toTables) {Esc : Value → Prop} (t : TypeId) (x y : Value) : yaa P Q X Esc (movedNumber t x y) := by
 unfold movedNumber
 (repeat' first
  |exact yaa.pure _
  |exact yaa.halt _
  |with_reducible first | assumption | apply zfo | apply zam | apply zfp
  |((with_reducible refine zdq _ ?_); rfl)
  |unfold asNumber | unfold Op.intArith | unfold Op.intBits | unfold Op.intCmp | unfold Op.intDiv | unfold Op.shift | unfold Op.stringOp | unfold Op.floatArith | unfold Op.floatCmp | unfold Op.addrSub | unfold Op.addrCmp
  |refine yaa.bind ?_ (fun _ => ?_)
  |split
  |dsimp only)
theorem zdo (hT : P.toTables = Q.toTables) {Esc : Value → Prop} (t : TypeId) (x y : Value) : yaa P Q X Esc (movedPointer t x y) := by
 unfold movedPointer
 (repeat' first
  |exact yaa.halt _
  |with_reducible first | assumption | apply zdz | apply zfp
  |unfold asNumber | unfold Op.intArith | unfold Op.intBits | unfold Op.intCmp | unfold Op.intDiv | unfold Op.shift | unfold Op.stringOp | unfold Op.floatArith | unfold Op.floatCmp | unfold Op.addrSub | unfold Op.addrCmp
  |refine yaa.bind ?_ (fun _ => ?_)
  |split
  |dsimp only)
theorem zan (hT : P.toTables = Q.toTables) {Esc : Value → Prop} (op : BinOp) (t : TypeId) (x y : Value) : yaa P Q X Esc (binOp op t x y) := by
 unfold binOp
 split
 all_goals first
  |exact zdn hT _ _ _
  |(refine yaa.bind (zfo hT _) (fun d => ?_)
    split
    ·first
      |(rw [if_pos rfl]; exact zdo hT _ _ _)
      |(rw [if_neg (by decide)]; exact zdn hT _ _ _)
    ·rw [if_neg (by decide)]; exact zdn hT _ _ _)
  |(repeat' first
  |exact yaa.pure _
  |exact yaa.halt _
  |with_reducible first | assumption | apply zfo | apply zem | apply zba | apply zam | apply zbp | apply zbd | apply zfi | apply zaa | refine zef ?_
  |unfold Op.intArith | unfold Op.intBits | unfold Op.intCmp | unfold Op.intDiv | unfold Op.shift | unfold Op.stringOp | unfold Op.floatArith | unfold Op.floatCmp | unfold Op.addrSub | unfold Op.addrCmp | unfold asNumber
  |refine yaa.bind ?_ (fun _ => ?_)
  |split
  |dsimp only)
end Go.Sim

namespace Go.Sim
variable {P Q : Program} {X : Nat → Prop}
theorem zff {Esc : Value → Prop} (t : TypeId) (s : ByteArray) : yaa P Q X Esc (Conv.stringToBytes t s) := by
 unfold Conv.stringToBytes
 refine yaa.bind (zba _) fun cap => ?_
 intro L w v es h
 generalize hc : (s.data.map fun b => Value.int .u8 b.toNat) ++ Array.replicate (cap - s.size) (Value.int .u8 0) = c
 have hXn : ¬ X w.heap.size := by
  intro hx
  exact absurd (h.xlt hx) (Nat.lt_irrefl _)
 have e1 : ∀ (R : Program) (u : World), (do let a ← newRow t c
                                            markStringish a
                                            pure (.slice (some a) s.size cap) : Sem Value).run R u = .ok (.slice (some ⟨u.heap.size, 0, none⟩) s.size cap) (({ u with heap := u.heap.push (.cells c t) } : World).freeze { block := u.heap.size, off := c.size } 1) := by
  intro R u
  show Sem.run R (Sem.new (.cells c t) fun r => Sem.shape r fun x => _) u = _
  simp only [Sem.run, World.shape?, Array.getElem?_push_size]
  rfl
 have e2 : ∀ (R : Program) (u : World), (do let a ← newRow t c
                                            markStringish a
                                            pure (.slice (some a) s.size cap) : Sem Value).runT R u es = (.ok (.slice (some ⟨u.heap.size, 0, none⟩) s.size cap) (({ u with heap := u.heap.push (.cells c t) } : World).freeze { block := u.heap.size, off := c.size } 1), es) := by
  intro R u
  show Sem.runT R (Sem.new (.cells c t) fun r => Sem.shape r fun x => _) u es = _
  simp only [Sem.runT, World.shape?, Array.getElem?_push_size]
  rfl
 have hR := (h.pushed (.cells c t) rfl).freeze (a := { block := w.heap.size, off := c.size }) hXn 1
 show ybj X L Esc w es (Sem.runT P (newRow t ((s.data.map fun b => Value.int .u8 b.toNat) ++ Array.replicate (cap - s.size) (Value.int .u8 0)) >>= fun a => markStringish a >>= fun _ => pure (.slice (some a) s.size cap)) w es) (Sem.run Q (newRow t ((s.data.map fun b => Value.int .u8 b.toNat) ++ Array.replicate (cap - s.size) (Value.int .u8 0)) >>= fun a => markStringish a >>= fun _ => pure (.slice (some a) s.size cap)) v)
 rw [hc, e1, e2, h.size]
 refine fun _ => .inr ⟨_, #[], by simp only [Array.append_empty], hR, ?_, by simp⟩
 exact (h.grows_push _).trans (ygo hXn 1)
end Go.Sim

namespace Go.Sim
variable {P Q : Program} {X : Nat → Prop}
variable (hT : P.toTables = Q.toTables)
theorem zfn (hT : P.toTables = Q.toTables) {α : Type} {Esc : α → Prop} {t : TypeId} {f : TypeDesc → Sem α} (h : ∀ d, Q.underlying t = some d → yaa P Q X Esc (f d)) : yaa P Q X Esc (underlying t >>= f) := by
 show yaa P Q X Esc (program >>= fun p => (match p.underlying t with | some d => pure d | none => stuck "no such type" : Sem TypeDesc) >>= f)
 refine zed (by simp only [ygh hT]) ?_
 cases hq : Q.underlying t with
 |none => exact yaa.halt _
 |some d => exact h d hq
theorem zbg (hT : P.toTables = Q.toTables) {Esc : Value → Prop} (src dst : TypeId) (x : Value) (h1 : Q.underlying src ≠ some .unsafePointer) (h2 : Q.underlying dst ≠ some .unsafePointer) (h3 : ∀ e, Q.underlying dst = some (.slice e) → src ≠ dst) : yaa P Q X Esc (convert src dst x) := by
 unfold convert
 refine zfn hT fun d hd => zfn hT fun e he => ?_
 split
 ·exact yaa.pure _
 ·exact yaa.pure _
 ·exact zcc _ _ _
 ·exact zcb _ _ _
 ·exact zbe _ _ _ _
 ·exact yaa.pure _
 ·exact yaa.pure _
 ·refine yaa.bind (zfo hT _) fun _ => ?_
  split
  ·exact zff _ _
  ·exact zfg _ _
  ·exact yaa.halt _
 ·have hne : (src == dst) = false := by simpa using h3 _ he
  refine yaa.bind (zfo hT _) fun _ => ?_
  rw [hne]
  split
  ·next h => cases h
  ·exact yaa.halt _
 ·refine yaa.bind (zfo hT _) fun _ => ?_
  split
  ·exact zau hT _
  ·exact zel hT _
  ·exact yaa.halt _
 ·exact absurd hd h1
 ·exact absurd he h2
 ·exact yaa.halt _
 ·exact yaa.halt _
end Go.Sim

namespace Go.Sim
variable {P Q : Program} {X : Nat → Prop}
variable (hT : P.toTables = Q.toTables)
theorem zce (hT : P.toTables = Q.toTables) (l : List FieldStep) : ∀ t x, Sim P Q X (follow l t x) := by
 induction l with
 |nil => exact fun t x => yaa.pure _
 |cons s l ih =>
  intro t x
  unfold follow
  (repeat' first
  |exact yaa.pure _
  |exact yaa.halt _
  |with_reducible first | assumption | apply ih | apply zfo | apply zet | apply zcy | apply zaf | apply zec | apply zat
  |unfold Place.get | unfold fieldPlace | unfold partAt
  |refine yaa.bind ?_ (fun _ => ?_)
  |split
  |dsimp only)
theorem zei (hT : P.toTables = Q.toTables) {Esc : Value → Prop} (t : TypeId) (v : Value) (p : Array FieldStep) (b : Bool) : yaa P Q X Esc (receiverVia t v p b) := by
 (repeat' first
  |exact yaa.pure _
  |exact yaa.halt _
  |with_reducible first | assumption | apply zfo | apply zcy | apply zaf | apply zce | refine zef ?_
  |unfold receiverVia | unfold receiverAt | unfold Place.get | unfold fieldPlace | unfold partAt
  |refine yaa.bind ?_ (fun _ => ?_)
  |split
  |dsimp only)
theorem zfx (hT : P.toTables = Q.toTables) {Esc : Value → Prop} (ts : Array TypeId) (t : TypeId) (x : Array Value) : yaa P Q X Esc (Builtin.ssaWrapNilChk_ ts t x) := by
 unfold Builtin.ssaWrapNilChk_
 rcases x with ⟨_ | ⟨a, _ | ⟨b, _ | ⟨c, _ | ⟨_, _⟩⟩⟩⟩⟩ <;> first | exact yaa.halt _ | skip
 cases b <;> first | exact yaa.halt _ | skip
 cases c <;> first | exact yaa.halt _ | skip
 cases a <;> first | exact yaa.halt _ | skip
 next p =>
 cases p
 ·refine yaa.bind (zba _) (fun _ => ?_)
  (repeat' first
  |exact yaa.pure _
  |exact yaa.halt _
  |with_reducible first | assumption | apply zfk | apply zfo | apply zem | apply zba
  |refine yaa.bind ?_ (fun _ => ?_)
  |split
  |dsimp only)
 ·exact yaa.pure _
theorem zdk (hT : P.toTables = Q.toTables) (n : Nat) : ∀ t v s, Sim P Q X (method n t v s) := by
 induction n with
 |zero => exact fun t v s => yaa.halt _
 |succ n ih =>
  intro t v s
  unfold method
  (repeat' first
  |exact yaa.pure _
  |exact yaa.halt _
  |with_reducible first | assumption | apply ih | apply zfk | apply zfo | apply zem | apply zcy | apply zaf | apply zce | apply zfx | refine zef ?_
  |unfold Place.get | unfold receiverAt | unfold receiverVia | unfold fieldPlace | unfold partAt
  |refine yaa.bind ?_ (fun _ => ?_)
  |split
  |dsimp only)
theorem zcf (hT : P.toTables = Q.toTables) (l : List FieldStep) : ∀ t x, Sim P Q X (followBlind l t x) := by
 induction l with
 |nil => exact fun t x => yaa.pure _
 |cons s l ih =>
  intro t x
  unfold followBlind
  (repeat' first
  |exact yaa.pure _
  |exact yaa.halt _
  |with_reducible first | assumption | apply ih | apply zfo | apply zec
  |unfold Place.get | unfold fieldPlace | unfold partAt
  |refine yaa.bind ?_ (fun _ => ?_)
  |split
  |dsimp only)
theorem zdu (hT : P.toTables = Q.toTables) (n : Nat) : ∀ t v s, Sim P Q X (nilAhead n t v s) := by
 induction n with
 |zero => exact fun t v s => yaa.pure _
 |succ n ih =>
  intro t v s
  unfold nilAhead
  (repeat' first
  |exact yaa.pure _
  |exact yaa.halt _
  |with_reducible first | assumption | apply ih | apply zfk | apply zfo | apply zcf
  |unfold Place.get | unfold receiverAt | unfold fieldPlace | unfold partAt
  |refine yaa.bind ?_ (fun _ => ?_)
  |split
  |dsimp only)
theorem zfy {Esc : Next → Prop} (l : Nat) (x : Array Value) : yaa P Q X Esc (Instr.yield l x) := by
 (repeat' first
  |exact yaa.pure _
  |exact yaa.halt _
  |with_reducible assumption
  |((with_reducible refine zck ?_ (fun _ => ?_)); · (intro o ho; cases o <;> first | (cases ho; done) | exact .inl rfl | exact .inr fun v => ⟨_, _, rfl, (by rfl)⟩))
  |unfold Instr.yield | unfold Instr.getLoop
  |refine yaa.bind ?_ (fun _ => ?_)
  |split
  |dsimp only)
end Go.Sim

namespace Go.Sim
variable {P Q : Program} {X : Nat → Prop}
variable (hT : P.toTables = Q.toTables)
theorem held_eq (hT : P.toTables = Q.toTables) (t : TypeId) : P.stoodInHeld t = Q.stoodInHeld t := by unfold Program.stoodInHeld Program.stoodInAs; simp only [ygh hT, uid_eq hT, yci hT, ytn hT, hT]
theorem layout_eq (hT : P.toTables = Q.toTables) (d : Nat) : ∀ t u, sameLayout P d t u = sameLayout Q d t u := by
 induction d with
 |zero => exact fun _ _ => rfl
 |succ d ih =>
  intro t u
  unfold sameLayout
  simp only [uid_eq hT, ygh hT, held_eq hT, ih]
theorem row_eq (hT : P.toTables = Q.toTables) (fits : TypeId → Bool) (d : Nat) : ∀ e c o n, rowAt P fits d e c o n = rowAt Q fits d e c o n := by
 induction d with
 |zero => exact fun _ _ _ _ => rfl
 |succ d ih =>
  intro e c o n
  unfold rowAt
  simp only [ycx hT, ygh hT, held_eq hT, ih]
theorem lies_eq (hT : P.toTables = Q.toTables) (d : Nat) : ∀ e c o u n, liesAt P d e c o u n = liesAt Q d e c o u n := by
 induction d with
 |zero => exact fun _ _ _ _ _ => rfl
 |succ d ih =>
  intro e c o u n
  unfold liesAt
  simp only [ygh hT, yci hT, row_eq hT, ih]
  have : (fun x => sameLayout P Q.depth x u) = (fun x => sameLayout Q Q.depth x u) := funext fun x => layout_eq hT _ _ _
  rw [this]
theorem zft (hT : P.toTables = Q.toTables) {Esc : Bool → Prop} (a : Addr) (hX : ¬ X a.block) (u : TypeId) (n : Nat) : yaa P Q X Esc (variablesAt a u n) := by
 intro L w v es h
 show ybj X L Esc w es ((Sem.program fun p => Sem.shape a.block fun x => _).runT P w es) ((Sem.program fun p => Sem.shape a.block fun x => _).run Q v)
 simp only [Sem.run, Sem.runT, h.shapeN hX]
 cases w.shape? a.block with
 |none => exact yaa.pure _ L w v es h
 |some x =>
  obtain ⟨e, c⟩ := x
  simp only [yci hT, ycx hT, lies_eq hT]
  exact yaa.pure _ L w v es h
theorem string_dead {L : Lim} {w v : World} (h : Rel X L w v) (Q : Program) {a : Addr} (hX : X a.block) (u : TypeId) (n : Nat) : ∃ y v', (do
      if ← variablesAt a u (n + 1) then do
       let s ← loadBytes a .empty (n + 1)
       freeze a (n + 1)
       pure (.string s)
      else unsupported (.unsafePointer "String: not so many bytes at ptr") : Sem Value).run Q v = .halt y v' ∧ ykf y = true := by
 have e : ∃ b, (variablesAt a u (n + 1)).run Q v = .ok b v := by
  show ∃ b, (Sem.program fun p => Sem.shape a.block fun x => _).run Q v = .ok b v
  simp only [Sem.run]
  cases v.shape? a.block with
  |none => exact ⟨_, rfl⟩
  |some x => exact ⟨_, rfl⟩
 obtain ⟨b, e⟩ := e
 show ∃ y v', ((variablesAt a u (n + 1)).bind fun b => _).run Q v = _ ∧ _
 rw [run_bind, e]
 cases b with
 |false => exact ⟨_, _, rfl, (by rfl)⟩
 |true =>
  have hc : v.cell? a = none := h.xcell hX
  obtain ⟨y, e2, hy⟩ : ∃ y, v.farLoad Q a (Mode.plain == .atomic) = .error y ∧ ykf y = true := by
   obtain ⟨c, t, _, hv⟩ := h.bare _ hX
   unfold World.farLoad
   rw [hv]
   exact ⟨_, rfl, yfz h a _⟩
  refine ⟨y, v, ?_, hy⟩
  show (Sem.load .plain a fun z => _).run Q v = _
  simp only [Sem.run, hc, e2]
end Go.Sim

namespace Go.Sim
variable {P Q : Program} {X : Nat → Prop}
def Nat2 (fn : Func) : Prop := fn.body.isNone = true ∧ Extern.findNext fn = none ∧ ((∃ ps rs, Extern.find fn = some (Extern.BytealgMakeNoZero.makeNoZero ps rs)) ∨ ∃ g, Extern.find fn = some g ∧ (g = Extern.AbiNoEscape.same ∨ g = Extern.BytealgIndexByte.indexByte ∨ g = Extern.BytealgIndex.index ∨ g = Extern.BytealgCount.count))
def Done (fn : Func) : Prop := (fn.body.isNone = false ∨ Nat2 fn) ∧ (fn.name == "runtime.NumGoroutine") = false
theorem zdy (hT : P.toTables = Q.toTables) {Esc : Value → Prop} (ps rs : Array TypeId) (x : Array Value) : yaa P Q X Esc (Extern.BytealgMakeNoZero.makeNoZero ps rs x) := by
 obtain ⟨l⟩ := x
 rcases l with _ | ⟨a, _ | ⟨b, l⟩⟩
 ·exact yaa.halt _
 ·cases a <;> first | exact yaa.halt _ | skip
  rename_i k n
  cases k <;> first | exact yaa.halt _ | skip
  unfold Extern.BytealgMakeNoZero.makeNoZero
  dsimp only
  split
  ·refine yaa.bind (zfo hT _) fun d => ?_
   split
   ·(repeat' first
  |exact yaa.pure _
  |exact yaa.halt _
  |with_reducible first | assumption | apply zfo | apply zem | apply zdr | apply zba | apply zak
  |refine yaa.bind ?_ (fun _ => ?_)
  |split
  |dsimp only)
   ·exact yaa.halt _
  ·exact yaa.halt _
 ·exact yaa.halt _
theorem zdw {Esc : Value → Prop} (x : Array Value) : yaa P Q X Esc (Extern.AbiNoEscape.same x) := by
 obtain ⟨l⟩ := x
 rcases l with _ | ⟨a, _ | ⟨b, l⟩⟩
 ·exact yaa.halt _
 ·exact yaa.pure _
 ·exact yaa.halt _
theorem zbt (hT : P.toTables = Q.toTables) {Esc : ByteArray → Prop} : ∀ (n : Nat) (a : Addr) (acc : ByteArray), yaa P Q X Esc (Extern.Bytes.loadBytes a n acc)
 |0, _, _ => yaa.pure _
 |n + 1, a, acc => by
  unfold Extern.Bytes.loadBytes
  refine yaa.bind (zct hT _ _) fun v => ?_
  split
  ·exact zbt hT n _ _
  ·exact yaa.halt _
theorem zbs (hT : P.toTables = Q.toTables) {Esc : ByteArray → Prop} (v : Value) : yaa P Q X Esc (Extern.Bytes.bytesOf v) := by
 unfold Extern.Bytes.bytesOf
 split
 ·exact yaa.pure _
 ·exact yaa.pure _
 ·exact zbt hT _ _ _
 ·exact yaa.halt _
theorem zbr {Esc : UInt8 → Prop} (v : Value) : yaa P Q X Esc (Extern.Bytes.asByte v) := by
 unfold Extern.Bytes.asByte
 split
 ·exact yaa.pure _
 ·exact yaa.halt _
theorem zcl (hT : P.toTables = Q.toTables) {Esc : Addr → Prop} (s : String) : yaa P Q X Esc (globalAddr s) := by
 unfold globalAddr
 refine zed ?_ ?_
 ·simp only [hT]
 ·split
  ·exact yaa.pure _
  ·exact yaa.halt _
theorem zco (hT : P.toTables = Q.toTables) {Esc : Value → Prop} (x : Array Value) : yaa P Q X Esc (Extern.BytealgIndexByte.indexByte x) := by
 obtain ⟨l⟩ := x
 rcases l with _ | ⟨a, _ | ⟨b, _ | ⟨c, l⟩⟩⟩
 ·exact yaa.halt _
 ·exact yaa.halt _
 ·unfold Extern.BytealgIndexByte.indexByte
  refine yaa.bind (zbs hT _) fun b => yaa.bind (zbr _) fun c => ?_
  split <;> exact yaa.pure _
 ·exact yaa.halt _
theorem zal (hT : P.toTables = Q.toTables) {Esc : Value → Prop} (x : Array Value) : yaa P Q X Esc (Extern.BytealgIndex.index x) := by
 obtain ⟨l⟩ := x
 rcases l with _ | ⟨a, _ | ⟨b, _ | ⟨c, l⟩⟩⟩
 ·exact yaa.halt _
 ·exact yaa.halt _
 ·unfold Extern.BytealgIndex.index Extern.BytealgIndex.maxLen
  refine yaa.bind (zbs hT _) fun a => yaa.bind (zbs hT _) fun b => ?_
  (repeat' first
  |exact yaa.pure _
  |exact yaa.halt _
  |with_reducible first | assumption | apply zai | apply zct | apply zcl
  |refine yaa.bind ?_ (fun _ => ?_)
  |split
  |dsimp only)
 ·exact yaa.halt _
theorem zbi (hT : P.toTables = Q.toTables) {Esc : Value → Prop} (x : Array Value) : yaa P Q X Esc (Extern.BytealgCount.count x) := by
 obtain ⟨l⟩ := x
 rcases l with _ | ⟨a, _ | ⟨b, _ | ⟨c, l⟩⟩⟩
 ·exact yaa.halt _
 ·exact yaa.halt _
 ·unfold Extern.BytealgCount.count
  exact yaa.bind (zbs hT _) fun b => yaa.bind (zbr _) fun c => yaa.pure _
 ·exact yaa.halt _
theorem zek {Esc : Value → Prop} (hT : P.toTables = Q.toTables) {g : Array Value → Sem Value} (hg : g = Extern.AbiNoEscape.same ∨ g = Extern.BytealgIndexByte.indexByte ∨ g = Extern.BytealgIndex.index ∨ g = Extern.BytealgCount.count) (x : Array Value) : yaa P Q X Esc (g x) := by
 rcases hg with rfl | rfl | rfl | rfl
 ·exact zdw x
 ·exact zco hT x
 ·exact zal hT x
 ·exact zbi hT x
theorem zdp {Esc : Next → Prop} {f : Nat} {fn : Func} (hT : P.toTables = Q.toTables) (hP : P.funcs[f]? = some fn) (hQ : Q.funcs[f]? = some fn) (hn : Nat2 fn) (h2 : (fn.name == "runtime.NumGoroutine") = false) (args : Array Value) : yaa P Q X Esc (callFunc f args) := by
 obtain ⟨h1, h3, h4⟩ := hn
 show yaa P Q X Esc (Sem.program fun p => match p.funcs[f]? with
  |none => stuck "call: no such function"
  |some fn => _)
 refine yaa.program (by simp only [hP, hQ]) ?_
 rw [hQ]
 dsimp only
 rw [h2, h1]
 show yaa P Q X Esc (Sem.mark (.extern f) _)
 refine yaa.mark rfl ?_
 rw [h3]
 rcases h4 with ⟨ps, rs, h⟩ | ⟨g, h, hg⟩
 ·rw [h]
  show yaa P Q X Esc (Sem.bind (Extern.BytealgMakeNoZero.makeNoZero ps rs args) fun x => Sem.pure (Next.value x))
  exact yaa.bind (zdy hT _ _ _) fun _ => yaa.pure _
 ·rw [h]
  show yaa P Q X Esc (Sem.bind (g args) fun x => Sem.pure (Next.value x))
  exact yaa.bind (zek hT hg _) fun _ => yaa.pure _
theorem yjj {f : Nat} {fn : Func} (hQ : Q.funcs[f]? = some fn) (hn : Nat2 fn) (h2 : (fn.name == "runtime.NumGoroutine") = false) {args : Array Value} {v v' : World} {a : Next} (e : (callFunc f args).run Q v = .ok a v') : ∃ x, a = .value x := by
 obtain ⟨h1, h3, h4⟩ := hn
 change (Sem.program fun p => match p.funcs[f]? with
  |none => stuck "call: no such function"
  |some fn => _).run Q v = _ at e
 simp only [Sem.run, hQ] at e
 rw [h2, h1] at e
 change (Sem.mark (.extern f) _).run Q v = _ at e
 simp only [Sem.run] at e
 rw [h3] at e
 have key : ∀ s : Sem Value, (Sem.bind s fun x => Sem.pure (Next.value x)).run Q v = .ok a v' → ∃ x, a = .value x := fun s e => by
  rw [run_bind] at e
  split at e
  ·simp only [Sem.run, Result.ok.injEq] at e
   exact ⟨_, e.1.symm⟩
  ·cases e
 rcases h4 with ⟨ps, rs, h⟩ | ⟨g, h, hg⟩
 ·rw [h] at e
  exact key _ e
 ·rw [h] at e
  exact key _ e
end Go.Sim

namespace Go.Sim
variable {P Q : Program} {X : Nat → Prop}
variable (hT : P.toTables = Q.toTables)
def EscZ (Z : Nat → Prop) : Next → Prop
 |.enter f _ => Z f
 |_ => False
structure Twin (P Q : Program) (Z : Nat → Prop) : Prop where
 tables : P.toTables = Q.toTables
 size : P.funcs.size = Q.funcs.size
 body : ∀ (f : Nat) fn, Q.funcs[f]? = some fn → Done fn
 bodied : ∀ (f : Nat) fn, ¬ Z f → Q.funcs[f]? = some fn → (fn.body.isNone = false ∧ ∃ fn', P.funcs[f]? = some fn' ∧ fn'.body.isNone = false ∧ (fn'.name == "runtime.NumGoroutine") = false) ∨ (Nat2 fn ∧ P.funcs[f]? = some fn)
 zbody : ∀ (f : Nat) fn, Z f → Q.funcs[f]? = some fn → fn.body.isNone = false
theorem zav {Z : Nat → Prop} (T : Twin P Q Z) (f : Nat) (args : Array Value) : yaa P Q X (EscZ Z) (callFunc f args) := by
 by_cases hnat : ∃ fn, Q.funcs[f]? = some fn ∧ Nat2 fn ∧ P.funcs[f]? = some fn
 ·obtain ⟨fn, hq, hn, hp⟩ := hnat
  exact zdp T.tables hp hq hn (T.body f fn hq).2 args
 intro L w v es h
 show ybj X L (EscZ Z) w es ((Sem.program fun p => match p.funcs[f]? with
  |none => stuck "call: no such function"
  |some fn => _).runT P w es) ((Sem.program fun p => match p.funcs[f]? with
  |none => stuck "call: no such function"
  |some fn => _).run Q v)
 simp only [Sem.run, Sem.runT]
 cases hq : Q.funcs[f]? with
 |none => exact .halt rfl
 |some fn =>
  have h2 := (T.body f fn hq).2
  dsimp only
  by_cases hz : Z f
  ·rw [T.zbody f fn hz hq, h2]
   exact fun _ => .inl hz
  ·rcases T.bodied f fn hz hq with ⟨h1, fn', hp, h3, h4⟩ | ⟨hn, hp⟩
   ·rw [h1, h2, hp]
    dsimp only
    rw [h3, h4]
    exact fun _ => .inr ⟨w, #[], by simp only [Array.append_empty]; rfl, h, .refl X w, by simp⟩
   ·exact absurd ⟨fn, hq, hn, hp⟩ hnat
theorem zaw {Z : Nat → Prop} (T : Twin P Q Z) (r : Value) (n : String) (args : Array Value) : yaa P Q X (EscZ Z) (callMethod r n args) := by
 unfold callMethod
 split
 ·refine zed (by simp only [T.tables]) ?_
  refine yaa.bind (zdk T.tables _ _ _ _) fun x => ?_
  exact zav T _ _
 ·exact zem T.tables _
 ·exact yaa.halt _
theorem zeb {Esc : Int → Prop} (hT : P.toTables = Q.toTables) : yaa P Q X Esc Instr.panicnil := by
 unfold Instr.panicnil
 show yaa P Q X Esc (Sem.sys .env fun r => _)
 refine yaa.sys (fun os => ⟨_, rfl⟩) fun r => ?_
 cases r <;> first | exact yaa.halt _ | skip
 exact zed (by simp only [hT]) (yaa.pure _)
theorem zea {Esc : Value → Prop} (hT : P.toTables = Q.toTables) (x : Value) : yaa P Q X Esc (Instr.panic x) := by
 unfold Instr.panic
 split
 ·exact yaa.halt _
 ·refine yaa.bind (zeb hT) fun n => ?_
  split
  ·exact yaa.halt _
  ·exact zem hT _
 ·exact yaa.halt _
theorem zcv (hT : P.toTables = Q.toTables) (n : Nat) : ∀ a acc, Sim P Q X (loadBytes a acc n) := by
 induction n with
 |zero => exact fun a acc => yaa.pure _
 |succ n ih =>
  intro a acc
  unfold loadBytes
  (repeat' first
  |exact yaa.pure _
  |exact yaa.halt _
  |with_reducible first | assumption | apply ih | apply zct
  |refine yaa.bind ?_ (fun _ => ?_)
  |split
  |dsimp only)
theorem bind_never {α β : Type} {Esc : β → Prop} {s : Sem α} {f : α → Sem β} (h : Sim P Q X s) (hn : ∀ v a v', s.run Q v ≠ .ok a v') : yaa P Q X Esc (s.bind f) := by
 intro L w v es hR hL
 have h1 := h L w v es hR
 have h2 := hn v
 rw [run_bind] at hL ⊢
 rw [yeq]
 generalize s.run Q v = r at h1 hL h2
 cases r with
 |ok a v' => exact absurd rfl (h2 a v')
 |halt y v' =>
  refine ⟨(h1 hL).1, fun z hz => ?_⟩
  obtain ⟨w', new, e, hR', hs, hn⟩ := (h1 hL).2 z hz
  rw [e]
  exact ⟨w', new, rfl, hR', hs, hn⟩
theorem ymx {α β : Type} {s : Sem α} {f : α → Sem β} (h : ∀ a v b v', (f a).run Q v ≠ .ok b v') : ∀ v b v', (s.bind f).run Q v ≠ .ok b v' := by
 intro v b v' e
 rw [run_bind] at e
 split at e
 ·exact h _ _ _ _ e
 ·cases e
theorem ylr {α : Type} (x : RuntimeError) : ∀ v a v', (runtimePanic x : Sem α).run Q v ≠ .ok a v' := by
 unfold runtimePanic
 refine ymx fun p => ?_
 dsimp only
 split <;> first | (intro v a v' e; cases e; done) | exact ymx fun _ => ymx fun _ => fun v a v' e => by cases e
theorem zfr {Esc : Value → Prop} (hT : P.toTables = Q.toTables) (ts : Array TypeId) (t : TypeId) (x : Array Value) : yaa P Q X Esc (Builtin.unsafeString_ ts t x) := by
 have tail : ∀ (a : Addr) (pt : TypeId) (n : Int), ¬ n = 0 → ¬ n < 0 → yaa P Q X Esc (do
   if ← variablesAt a (← elemOf pt) n.toNat then do
    let s ← loadBytes a .empty n.toNat
    freeze a n.toNat
    pure (.string s)
   else unsupported (.unsafePointer "String: not so many bytes at ptr")) := by
  intro a pt n h0 h1
  refine yaa.bind (zbk hT _) fun u => ?_
  obtain ⟨m, hm⟩ : ∃ m, n.toNat = m + 1 := ⟨n.toNat - 1, by omega⟩
  rw [hm]
  intro L w v es h
  by_cases hX : X a.block
  ·obtain ⟨y, v', e, hy⟩ := string_dead h Q hX u m
   rw [e]
   exact .halt hy
  ·refine (yaa.bind (zft hT a hX u (m + 1)) fun b => ?_) L w v es h
   split
   ·refine yaa.bind (zcv hT _ _ _) fun s => ?_
    intro L w v es h
    show ybj X L Esc w es ((Sem.freeze a (m + 1) (Sem.pure (.string s))).runT P w es) ((Sem.freeze a (m + 1) (Sem.pure (.string s))).run Q v)
    simp only [Sem.run, Sem.runT]
    refine ybj.step (pre := #[]) (w1 := w.freeze a (m + 1)) ?_ (ygo hX _) (by simp)
    simp only [Array.append_empty]
    exact yaa.pure (P := P) (Q := Q) _ _ _ _ _ (h.freeze hX _)
   ·exact yaa.halt _
 unfold Builtin.unsafeString_
 rcases x with ⟨_ | ⟨v, _ | ⟨l, _ | ⟨_, _⟩⟩⟩⟩ <;> first | exact yaa.halt _ | skip
 cases v <;> first | exact yaa.halt _ | skip
 next p =>
 refine yaa.bind (zai l) fun n => ?_
 dsimp only
 cases ts[0]? with
 |none => exact yaa.halt _
 |some pt =>
  have body : ∀ n : Int, ¬ n < 0 → yaa P Q X Esc (match p with
    |none => if n = 0 then pure (.string .empty) else runtimePanic (.error "unsafe.String: ptr is nil and len is not zero")
    |some a => if n = 0 then pure (.string .empty) else do
      if ← variablesAt a (← elemOf pt) n.toNat then do
       let s ← loadBytes a .empty n.toNat
       freeze a n.toNat
       pure (.string s)
      else unsupported (.unsafePointer "String: not so many bytes at ptr")) := by
   intro n hn
   cases p with
   |none =>
    dsimp only
    split
    ·exact yaa.pure _
    ·exact zem hT _
   |some a =>
    dsimp only
    split
    ·exact yaa.pure _
    ·next h0 => exact tail a pt n h0 hn
  dsimp only
  split
  ·exact bind_never (zem hT _) (ylr _)
  ·next hn =>
   split
   ·exact yaa.bind (yaa.halt _) fun _ => body _ hn
   ·exact body _ hn
theorem zfu {Esc : Option (Addr × TypeId) → Prop} (r : Nat) : yaa P Q X Esc (viewAt r) := by
 unfold viewAt
 refine zeq (fun _ _ _ => rfl) fun x => ?_
 split
 ·exact yaa.pure _
 ·refine zck (fun o ho => ?_) fun o => ?_
  ·cases o <;> first | (cases ho; done) | exact .inl rfl
  ·split <;> exact yaa.pure _
theorem zfq {Esc : Value → Prop} (hT : P.toTables = Q.toTables) (ts : Array TypeId) (t : TypeId) (x : Array Value) : yaa P Q X Esc (Builtin.unsafeSliceData_ ts t x) := by
 unfold Builtin.unsafeSliceData_
 rcases x with ⟨_ | ⟨v, _ | ⟨l, _⟩⟩⟩ <;> first | exact yaa.halt _ | skip
 cases v <;> first | exact yaa.halt _ | skip
 next p n c =>
 cases p with
 |none => exact yaa.pure _
 |some a =>
  show yaa P Q X Esc (if c ≠ 0 then _ else _)
  split
  ·exact yaa.pure _
  ·refine yaa.bind (zfu _) fun o => ?_
   split
   ·exact yaa.pure _
   ·refine yaa.bind (zbk hT _) fun e => ?_
    exact yaa.bind (zdq _ rfl) fun _ => yaa.pure _
def okB : Builtin → Bool
 |.append | .cap | .clear | .copy | .delete | .len | .max | .min | .panic | .recover | .make | .new | .unsafeString | .unsafeSliceData | .unsafeSizeof => true
 |_ => false
theorem zas {Esc : Next → Prop} (hT : P.toTables = Q.toTables) (b : Builtin) (hb : okB b = true) (ts : Array TypeId) (t : TypeId) (cs : Array Bool) (x : Array Value) : yaa P Q X Esc (builtin b ts t cs x) := by
 cases b <;> first | (cases hb; done) | skip
 all_goals unfold builtin
 ·exact yaa.bind (zac hT _ _ _) fun _ => yaa.pure _
 ·exact yaa.bind (zay hT _ _ _) fun _ => yaa.pure _
 ·exact yaa.bind (zbb hT _ _ _) fun _ => yaa.pure _
 ·exact yaa.bind (zbh hT _ _ _) fun _ => yaa.pure _
 ·exact yaa.bind (zbj hT _ _ _) fun _ => yaa.pure _
 ·exact yaa.bind (zcr hT _ _ _) fun _ => yaa.pure _
 ·exact yaa.halt _
 ·exact yaa.bind (zdh _ _ _) fun _ => yaa.pure _
 ·exact yaa.bind (zdl _ _ _) fun _ => yaa.pure _
 ·exact yaa.halt _
 ·exact yaa.bind (zea hT _) fun _ => yaa.pure _
 ·exact yaa.pure _
 ·exact yaa.bind (zfq hT _ _ _) fun _ => yaa.pure _
 ·exact yaa.bind (zfr hT _ _ _) fun _ => yaa.pure _
 ·exact yaa.bind (zfk hT _) fun _ => yaa.pure _
def okT : Target → Bool
 |.builtin b _ _ _ => okB b
 |.coroexit _ => false
 |_ => true
theorem zcp {Z : Nat → Prop} (T : Twin P Q Z) (t : Target) (ht : okT t = true) (args : Array Value) : yaa P Q X (EscZ Z) (invoke t args) := by
 unfold invoke
 split
 ·exact zem T.tables _
 ·exact zas T.tables _ ht _ _ _ _
 ·exact zav T _ _
 ·split
  ·exact zaw T _ _ _
  ·exact yaa.halt _
 ·split
  ·refine yaa.bind (zfo T.tables _) fun d => ?_
   exact zaw T _ _ _
  ·exact yaa.halt _
 ·split
  ·exact yaa.bind (zei T.tables _ _ _ _) fun _ => zav T _ _
  ·exact yaa.halt _
 ·exact zfy _ _
 ·exact yaa.halt _
 ·exact yaa.pure _
end Go.Sim

namespace Go.Sim
variable {P Q : Program}
def yca (_ : Nat) : Prop := False
def yfr (L : Lim) {α : Type} (w : World) (es : Array Event) (r : Result α × Array Event) (res : Result α) : Prop :=
 res.wd.drawn ≤ L.lim → match res with
 |.ok a v' => ∃ w' new, r = (.ok a w', es ++ new) ∧ Rel yca L w' v' ∧ w'.heap = v'.heap ∧ ycq yca w w' ∧ ∀ e ∈ new, yld yca w'.heap.size e
 |.halt x v' => okH x = true ∧ ∀ y, x = .panic y → ∃ w' new, r = (.halt (.panic y) w', es ++ new) ∧ Rel yca L w' v' ∧ ycq yca w w' ∧ ∀ e ∈ new, yld yca w'.heap.size e
def ybq (P Q : Program) {α : Type} (s : Sem α) : Prop :=
 ∀ L w v es, Rel yca L w v → w.heap = v.heap → yfr L w es (s.runT P w es) (s.run Q v)
theorem yfr.of {L : Lim} {α : Type} {Esc : α → Prop} {w : World} {es : Array Event} {r : Result α × Array Event} {res : Result α} (h : yfr L w es r res) : ybj yca L Esc w es r res := by
 intro hL
 have h' := h hL
 cases res with
 |ok a v' =>
  obtain ⟨w', new, e, hR, _, hg, hf⟩ := h'
  exact .inr ⟨w', new, e, hR, hg, hf⟩
 |halt x v' => exact h'
theorem yfr.step {L : Lim} {α : Type} {w w1 : World} {es pre : Array Event} {r : Result α × Array Event} {res : Result α} (h : yfr L w1 (es ++ pre) r res) (hs : ycq yca w w1) (hp : ∀ e ∈ pre, yld yca w1.heap.size e) : yfr L w es r res := by
 intro hL
 have h' := h hL
 clear h
 cases res with
 |ok b v' =>
  obtain ⟨w', new, e, hR, hh, hs', hn⟩ := h'
  exact ⟨w', pre ++ new, by rw [e, Array.append_assoc], hR, hh, hs.trans hs', fun x hx => (Array.mem_append.1 hx).elim (fun q => (hp x q).mono hs'.size) (hn x)⟩
 |halt x v' =>
  refine ⟨h'.1, fun y hy => ?_⟩
  obtain ⟨w', new, e, hR, hs', hn⟩ := h'.2 y hy
  exact ⟨w', pre ++ new, by rw [e, Array.append_assoc], hR, hs.trans hs', fun x hx => (Array.mem_append.1 hx).elim (fun q => (hp x q).mono hs'.size) (hn x)⟩
theorem ybq.pure {α : Type} (a : α) : ybq P Q (Sem.pure a) := fun L w v es h he _ => ⟨w, #[], by simp [Sem.runT], h, he, .refl _ w, by simp⟩
theorem ybq.halt {α : Type} (x : Halt) (hx : okH x = true := by rfl) : ybq P Q (Sem.halt x : Sem α) := by
 intro L w v es h he _
 exact ⟨hx, fun y e => by subst e; exact ⟨w, #[], by simp [Sem.runT], h, .refl _ w, by simp⟩⟩
theorem ybq.bind {α β : Type} {s : Sem α} {f : α → Sem β} (h : ybq P Q s) (hf : ∀ a, ybq P Q (f a)) : ybq P Q (s.bind f) := by
 intro L w v es hR he hL
 have h1 := h L w v es hR he
 rw [run_bind] at hL ⊢
 rw [yeq]
 generalize s.run Q v = r at h1 hL
 cases r with
 |ok a v' =>
  have hm : v'.drawn ≤ ((f a).run Q v').wd.drawn := yet Q (f a) v'
  obtain ⟨w', new, e, hR', hh, hs, hn⟩ := h1 (Nat.le_trans hm hL)
  rw [e]
  exact (yfr.step (hf a L w' v' (es ++ new) hR' hh) hs hn) hL
 |halt y v' =>
  refine ⟨(h1 hL).1, fun z hz => ?_⟩
  obtain ⟨w', new, e, hR', hs, hn⟩ := (h1 hL).2 z hz
  rw [e]
  exact ⟨w', new, rfl, hR', hs, hn⟩
theorem ybq.shape {α : Type} {r : Nat} {k : Option (TypeId × Nat) → Sem α} (hk : ∀ x, ybq P Q (k x)) : ybq P Q (shape r >>= k) := by
 intro L w v es h he
 show yfr L w es ((Sem.shape r k).runT P w es) ((Sem.shape r k).run Q v)
 simp only [Sem.run, Sem.runT]
 have : v.shape? r = w.shape? r := by unfold World.shape?; rw [he]
 rw [this]
 exact hk _ _ _ _ _ h he
theorem ybq.getObj {α : Type} {r : Nat} {k : Obj → Sem α} (hk : ∀ x, ybq P Q (k x)) : ybq P Q (getObj r >>= k) := by
 intro L w v es h he
 show yfr L w es ((Sem.getObj r k).runT P w es) ((Sem.getObj r k).run Q v)
 simp only [Sem.run, Sem.runT, ← he]
 cases ho : w.heap[r]? with
 |none => exact fun _ => ⟨rfl, fun y e => by cases e⟩
 |some o =>
  have hlt : r < w.heap.size := (Array.getElem?_eq_some_iff.1 ho).1
  cases o <;> first
   |exact fun _ => ⟨rfl, fun y e => by cases e⟩
   |exact yfr.step (pre := #[_]) (by simpa using hk _ _ _ _ _ h he) (.refl _ w) (by simp only [Array.mem_singleton, forall_eq]; exact ⟨fun h => h, hlt⟩)
theorem ybq.new {α : Type} {o : Obj} {k : Nat → Sem α} (ho : o.odd = false) (hk : ∀ r, ybq P Q (k r)) : ybq P Q (newObj o >>= k) := by
 intro L w v es h he
 show yfr L w es ((Sem.new o k).runT P w es) ((Sem.new o k).run Q v)
 simp only [Sem.run, Sem.runT, h.size]
 refine yfr.step (pre := #[]) (w1 := { w with heap := w.heap.push o }) ?_ (h.grows_push o) (by simp)
 simp only [Array.append_empty]
 exact hk _ _ _ _ _ (h.pushed o ho) (by simp [he])
theorem ybq.freeze {α : Type} {a : Addr} {n : Nat} {k : Unit → Sem α} (hk : ∀ r, ybq P Q (k r)) : ybq P Q (freeze a n >>= k) := by
 intro L w v es h he
 show yfr L w es ((Sem.freeze a n (k ())).runT P w es) ((Sem.freeze a n (k ())).run Q v)
 simp only [Sem.run, Sem.runT]
 refine yfr.step (pre := #[]) (w1 := w.freeze a n) ?_ (ygo (fun h => h) _) (by simp)
 simp only [Array.append_empty]
 exact hk _ _ _ _ _ (h.freeze (fun h => h) _) (by unfold World.freeze; split; exact he; simp [he])
theorem ybq.program {α : Type} {f : Program → Sem α} (e : f P = f Q) (h : ybq P Q (f Q)) : ybq P Q (Go.program >>= f) := by
 intro L w v es hR he
 show yfr L w es ((Sem.program f).runT P w es) ((Sem.program f).run Q v)
 simp only [Sem.run, Sem.runT, e]
 exact h _ _ _ _ hR he
theorem simH_und (hT : P.toTables = Q.toTables) {α : Type} {t : TypeId} {f : TypeDesc → Sem α} (h : ∀ d, ybq P Q (f d)) : ybq P Q (underlying t >>= f) := by
 show ybq P Q (Go.program >>= fun p => (match p.underlying t with | some d => Pure.pure d | none => stuck "no such type" : Sem TypeDesc) >>= f)
 refine ybq.program (by simp only [ygh hT]) ?_
 cases hq : Q.underlying t with
 |none => exact ybq.halt _
 |some d => exact h d
theorem simH_info (hT : P.toTables = Q.toTables) (t : TypeId) : ybq P Q (typeInfo t) := by
 unfold typeInfo
 refine ybq.program (by simp only [hT]) ?_
 cases Q.info? t with
 |none => exact ybq.halt _
 |some d => exact ybq.pure _
theorem yyk (hT : P.toTables = Q.toTables) (t : TypeId) : ybq P Q (sizeOf t) := ybq.bind (simH_info hT t) fun _ => ybq.pure _
theorem simH_viewAt (r : Nat) : ybq P Q (viewAt r) := by
 unfold viewAt
 refine ybq.shape fun x => ?_
 split
 ·exact ybq.pure _
 ·refine ybq.getObj fun o => ?_
  split <;> exact ybq.pure _
theorem yqh (hT : P.toTables = Q.toTables) (a : Addr) : ybq P Q (Conv.seenAt a) := by
 unfold Conv.seenAt
 refine ybq.bind (simH_viewAt _) fun o => ?_
 split
 ·split
  ·exact ybq.pure _
  ·dsimp only
   split
   ·exact ybq.halt _
   ·refine ybq.program (by simp only [ycx hT, yci hT, yfc hT, cab_eq hT]) ?_
    split
    ·refine ybq.shape fun x => ?_
     split
     ·split
      ·exact ybq.halt _
      ·split
       ·exact ybq.pure _
       ·exact ybq.halt _
     ·exact ybq.halt _
    ·exact ybq.halt _
 ·exact ybq.pure _
theorem yyj (r : Nat) : ybq P Q (cellsIn r) := by
 unfold cellsIn
 refine ybq.shape fun x => ?_
 split
 ·exact ybq.pure _
 ·refine ybq.getObj fun o => ?_
  split <;> exact ybq.pure _
theorem ynx (hT : P.toTables = Q.toTables) (a : Addr) (u : TypeId) (n : Nat) : ybq P Q (variablesAt a u n) := by
 unfold variablesAt
 refine ybq.program ?_ ?_
 ·simp only [yci hT, ycx hT, lies_eq hT]
 ·refine ybq.shape fun x => ?_
  split <;> exact ybq.pure _
theorem holds_eq (hT : P.toTables = Q.toTables) (d : Nat) : ∀ t, P.holdsStoodIn d t = Q.holdsStoodIn d t := by
 induction d with
 |zero => exact fun _ => rfl
 |succ d ih =>
  intro t
  unfold Program.holdsStoodIn
  simp only [held_eq hT, ygh hT, ih]
theorem ygp (hT : P.toTables = Q.toTables) (src dst : TypeId) (x : Value) : ybq P Q (Conv.unsafePointer src dst x) := by
 unfold Conv.unsafePointer
 refine simH_und hT fun d => simH_und hT fun e => ?_
 split
 ·exact ybq.pure _
 ·refine ybq.bind (yqh hT _) fun s => ybq.bind (yyj _) fun c => ybq.bind (yyk hT _) fun n => ?_
  cases c with
  |none =>
   dsimp only
   split
   ·exact ybq.new rfl fun _ => ybq.pure _
   ·exact ybq.pure _
  |some c =>
   dsimp only
   split
   ·exact ybq.new rfl fun _ => ybq.pure _
   ·exact ybq.pure _
 ·exact ybq.pure _
 ·refine ybq.bind (yqh hT _) fun s => ybq.bind (yyk hT _) fun n => ?_
  refine ybq.bind (ynx hT _ _ _) fun b => ?_
  split
  ·exact ybq.pure _
  ·refine ybq.shape fun x => ?_
   dsimp only
   split
   ·refine ybq.program ?_ (ybq.program ?_ ?_)
    ·simp only [holds_eq hT]
    ·simp only [yci hT]
    ·split
     ·exact ybq.bind (ybq.halt _) fun _ => ybq.new rfl fun _ => ybq.pure _
     ·exact ybq.new rfl fun _ => ybq.pure _
   ·exact ybq.bind (ybq.halt _) fun _ => ybq.new rfl fun _ => ybq.pure _
 ·exact ybq.pure _
 ·exact ybq.pure _
 ·unfold asNumber
  exact ybq.new rfl fun _ => ybq.pure _
 ·exact ybq.halt _
 ·exact ybq.halt _
 ·exact ybq.halt _
 ·exact ybq.halt _
theorem yrn (a : Addr) : ybq P Q (markStringish a) := by
 unfold markStringish
 refine ybq.shape fun x => ?_
 split
 ·exact ybq.freeze (k := fun x => Sem.pure x) fun _ => ybq.pure _
 ·exact ybq.pure _
theorem ycm {X : Nat → Prop} {L : Lim} {w v : World} {es : Array Event} {α : Type} {Esc : α → Prop} (hT : P.toTables = Q.toTables) {t : TypeId} {f : TypeDesc → Sem α} (h : ∀ d, Q.underlying t = some d → ybj X L Esc w es ((f d).runT P w es) ((f d).run Q v)) : ybj X L Esc w es ((underlying t >>= f).runT P w es) ((underlying t >>= f).run Q v) := by
 show ybj X L Esc w es ((Sem.program fun p => ((match p.underlying t with | some d => Pure.pure d | none => stuck "no such type" : Sem TypeDesc) >>= f)).runT P w es) ((Sem.program fun p => ((match p.underlying t with | some d => Pure.pure d | none => stuck "no such type" : Sem TypeDesc) >>= f)).run Q v)
 simp only [Sem.run, Sem.runT, ygh hT]
 cases hq : Q.underlying t with
 |none => exact .halt rfl
 |some d => exact h d hq
theorem yun (hT : P.toTables = Q.toTables) {L : Lim} {w v : World} {es : Array Event} {Esc : Value → Prop} (h : Rel yca L w v) (he : w.heap = v.heap) (src dst : TypeId) (x : Value) : ybj yca L Esc w es ((convert src dst x).runT P w es) ((convert src dst x).run Q v) := by
 unfold convert
 refine ycm hT fun d hd => ycm hT fun e hE => ?_
 split
 ·exact yaa.pure _ _ _ _ _ h
 ·exact yaa.pure _ _ _ _ _ h
 ·exact zcc _ _ _ _ _ _ _ h
 ·exact zcb _ _ _ _ _ _ _ h
 ·exact zbe _ _ _ _ _ _ _ _ h
 ·exact yaa.pure _ _ _ _ _ h
 ·exact yaa.pure _ _ _ _ _ h
 ·refine ycm hT fun _ _ => ?_
  split
  ·exact zff _ _ _ _ _ _ h
  ·exact zfg _ _ _ _ _ _ h
  ·exact yaa.halt _ rfl _ _ _ _ h
 ·refine ycm hT fun _ _ => ?_
  split
  ·exact (ybq.bind (yrn _) (fun _ => ybq.pure _) _ _ _ _ h he).of
  ·exact yaa.halt _ rfl _ _ _ _ h
 ·refine ycm hT fun _ _ => ?_
  split
  ·exact zau hT _ _ _ _ _ h
  ·exact zel hT _ _ _ _ _ h
  ·exact yaa.halt _ rfl _ _ _ _ h
 ·exact (ygp hT _ _ _ _ _ _ _ h he).of
 ·exact (ygp hT _ _ _ _ _ _ _ h he).of
 ·exact yaa.halt _ rfl _ _ _ _ h
 ·exact yaa.halt _ rfl _ _ _ _ h
end Go.Sim

namespace Go.Sim
variable {P Q : Program} {X : Nat → Prop}
def ydo (Q : Program) : Op → Bool
 |.convert src dst _ => !(Q.underlying src matches some .unsafePointer) && !(Q.underlying dst matches some .unsafePointer) && !((Q.underlying dst matches some (.slice _)) && src == dst)
 |.makeChan .. | .send .. | .recv .. | .select .. | .go .. | .defer .. => false
 |.call c => match c.callee with
  |.builtin b => okB b
  |_ => true
 |_ => true
def okG (Q : Program) : Op → Bool
 |.convert .. => true
 |o => ydo Q o
theorem okG_of {Q : Program} {o : Op} (h : ydo Q o = true) : okG Q o = true := by
 cases o <;> first | rfl | exact h
theorem bind_pure' {α : Type} (s : Sem α) : s.bind Sem.pure = s := by
 induction s with
 |pure a => rfl
 |halt h => rfl
 |load m a k ih => exact congrArg (Sem.load m a) (funext ih)
 |store m a v k ih => exact congrArg (Sem.store m a v) ih
 |new o k ih => exact congrArg (Sem.new o) (funext ih)
 |shape r k ih => exact congrArg (Sem.shape r) (funext ih)
 |freeze a n k ih => exact congrArg (Sem.freeze a n) ih
 |frozen a k ih => exact congrArg (Sem.frozen a) (funext ih)
 |getObj r k ih => exact congrArg (Sem.getObj r) (funext ih)
 |setObj r o k ih => exact congrArg (Sem.setObj r o) ih
 |choose q k ih => exact congrArg (Sem.choose q) (funext ih)
 |sys c k ih => exact congrArg (Sem.sys c) (funext ih)
 |program k ih => exact congrArg Sem.program (funext ih)
 |mark m k ih => exact congrArg (Sem.mark m) ih
theorem bind_assoc' {α β γ : Type} (s : Sem α) (f : α → Sem β) (g : β → Sem γ) : (s.bind f).bind g = s.bind fun a => (f a).bind g := by
 induction s with
 |pure a => rfl
 |halt h => rfl
 |load m a k ih => exact congrArg (Sem.load m a) (funext ih)
 |store m a v k ih => exact congrArg (Sem.store m a v) ih
 |new o k ih => exact congrArg (Sem.new o) (funext ih)
 |shape r k ih => exact congrArg (Sem.shape r) (funext ih)
 |freeze a n k ih => exact congrArg (Sem.freeze a n) ih
 |frozen a k ih => exact congrArg (Sem.frozen a) (funext ih)
 |getObj r k ih => exact congrArg (Sem.getObj r) (funext ih)
 |setObj r o k ih => exact congrArg (Sem.setObj r o) ih
 |choose q k ih => exact congrArg (Sem.choose q) (funext ih)
 |sys c k ih => exact congrArg (Sem.sys c) (funext ih)
 |program k ih => exact congrArg Sem.program (funext ih)
 |mark m k ih => exact congrArg (Sem.mark m) ih
theorem lawful : LawfulMonad Sem := LawfulMonad.mk' Sem (fun x => bind_pure' x) (fun _ _ => rfl) (fun x f g => bind_assoc' x f g)
theorem zde {α β : Type} {Esc : Array β → Prop} {f : α → Sem β} (hf : ∀ a, Sim P Q X (f a)) (l : Array α) : yaa P Q X Esc (l.mapM f) := by
 haveI := lawful
 rw [Array.mapM_eq_mapM_toList]
 exact yaa.bind (zdf hf _) fun _ => yaa.pure _
theorem zaq {Esc : Value → Prop} (hT : P.toTables = Q.toTables) (t : TypeId) (x : Array (Nat × Value)) : yaa P Q X Esc (Instr.build t x) := by
 unfold Instr.build
 refine yaa.bind (zfz hT _) fun z => ?_
 dsimp only
 refine yaa.bind (zfo hT _) fun d => ?_
 split
 ·refine yaa.bind (zde (fun f => yaa.bind (zet hT _) fun _ => yaa.pure _) _) fun ps => ?_
  (repeat' first
  |exact yaa.pure _
  |exact yaa.halt _
  |with_reducible first | assumption | apply zfo | apply zfz | apply zet
  |refine yaa.bind ?_ (fun _ => ?_)
  |split
  |dsimp only)
 ·(repeat' first
  |exact yaa.pure _
  |exact yaa.halt _
  |with_reducible first | assumption | apply zfo | apply zfz | apply zet
  |refine yaa.bind ?_ (fun _ => ?_)
  |split
  |dsimp only)
 ·(repeat' first
  |exact yaa.pure _
  |exact yaa.halt _
  |with_reducible first | assumption | apply zfo | apply zfz | apply zet
  |refine yaa.bind ?_ (fun _ => ?_)
  |split
  |dsimp only)
theorem zax {Z : Nat → Prop} (T : Twin P Q Z) (ρ : Operand → Value) (c : Call) (t : TypeId) (hc : ydo Q (.call c) = true) : yaa P Q X (EscZ Z) (do let d ← resolve ρ c t; invoke d.target d.args) := by
 unfold resolve
 dsimp only
 split
 ·next b e =>
  simp only [ydo, e] at hc
  exact zef (zcp T (.builtin b _ _ _) hc _)
 ·(refine zef ?_; refine zcp T _ ?_ _; rfl)
 ·unfold Deferred.ofValue
  split
  ·(refine zef ?_; refine zcp T _ ?_ _; rfl)
  ·(refine zef ?_; refine zcp T _ ?_ _; rfl)
  ·exact yaa.halt _
end Go.Sim
