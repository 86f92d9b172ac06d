/- A child that works and says Done, a caller that Waits: where. -/
import Derived.Conc.FxWorld
import Derived.Test.YtaelaldmibgibaaGreatDoorX19

set_option linter.all false

namespace Go.Sim
open Go.Conc
open Go.ConcX (WgAt wgBlock stA smA KK rd wr mk DC0)
def RK (K : World → Prop) (_ w₁ : World) : Prop := K w₁
def Wk (P : Program) (main : Bool) (K : World → Prop) (S : Goroutine → World → Prop) (n : Nat) (g : Goroutine) : Prop := ∀ w, Goes P main (RK K) DC0 S n g w
theorem Wk.cases {P : Program} {main : Bool} {K : World → Prop} {S : Goroutine → World → Prop} {n : Nat} {g : Goroutine} (h : Wk P main K S n g) {w : World} (hw : K w) :
  S g w ∨ ∃ n' g', n = n' + 1 ∧ stepG P main g w = .go g' w #[] ∧ Wk P main K S n' g' := by
 rcases Goes.cases (h w) with hs | ⟨n', rfl, hs⟩
 ·exact .inl (hs w hw)
 ·obtain ⟨g', w', es, e, ⟨rfl, rfl⟩, hg⟩ := hs w hw
  refine .inr ⟨n', g', rfl, e, fun u => ?_⟩
  cases n' with
  |zero => exact fun w₁ h₁ => hg w₁ h₁
  |succ k => exact hg.imp (fun x w₁ h₁ => x w₁ h₁) (fun x => ⟨x.1, fun w₁ h₁ => x.2 w₁ h₁⟩)
theorem Wk.of {P : Program} {main : Bool} {K : World → Prop} {S : Goroutine → World → Prop} {n : Nat} {g : Goroutine} {w : World} (h : Goes P main (RK K) DC0 S n g w) : Wk P main K S n g := by
 intro u
 cases n with
 |zero => exact fun w₁ h₁ => h w₁ h₁
 |succ k => exact h.imp (fun x w₁ h₁ => x w₁ h₁) (fun x => ⟨x.1, fun w₁ h₁ => x.2 w₁ h₁⟩)
theorem Wk.running {P : Program} {main : Bool} {K : World → Prop} {S : Goroutine → World → Prop} {n : Nat} {g : Goroutine} (h : Wk P main K S n g) (hS : ∀ g w, S g w → g.status = .running) {w : World} (hw : K w) : g.status = .running :=
 Goes.running hS w hw (h w)
section
variable (P : Program) (ty Wg : Nat)
def Ka (w : World) : Prop := WgAt ty Wg w KK 0 ∨ WgAt ty Wg w 0 0
def Kb (w : World) : Prop := WgAt ty Wg w (KK + 1) 0 ∨ WgAt ty Wg w 1 0 ∨ WgAt ty Wg w 0 0 ∨ WgAt ty Wg w 0 1
def K0 (w : World) : Prop := WgAt ty Wg w 0 0
def K1 (w : World) : Prop := WgAt ty Wg w 1 0
def Kc (w : World) : Prop := WgAt ty Wg w KK 0 ∨ WgAt ty Wg w (KK + 1) 0
/-! the child, from its end -/
def SD4 (g : Goroutine) (w : World) : Prop := g.status = .running ∧ mayWake P g = true ∧ ∃ g', stepG P false g w = .go g' (w.setCell (smA Wg) (.int .u32 1)) (semEvents (smA Wg)) ∧ ∃ q, QuitsD P q 1 g'
def SD3 (g : Goroutine) (w : World) : Prop := g.status = .running ∧ ∃ g', stepG P false g w = .go g' (w.setCell (stA Wg) (.int .u64 0)) #[wr (stA Wg)] ∧ ∃ m, Wk P false (K0 ty Wg) (SD4 P Wg) m g'
def SD2 (g : Goroutine) (w : World) : Prop := g.status = .running ∧ ∃ g', stepG P false g w = .go g' w #[rd (stA Wg)] ∧ ∃ m, Wk P false (K1 ty Wg) (SD3 P ty Wg) m g'
def SD1 (g : Goroutine) (w : World) : Prop := g.status = .running ∧
 (WgAt ty Wg w KK 0 → ∃ g', stepG P false g w = .go g' (w.setCell (stA Wg) (.int .u64 0)) #[rd (stA Wg), wr (stA Wg)] ∧ ∃ q, QuitsD P q 1 g') ∧
 (WgAt ty Wg w (KK + 1) 0 → ∃ g', stepG P false g w = .go g' (w.setCell (stA Wg) (.int .u64 1)) #[rd (stA Wg), wr (stA Wg)] ∧ ∃ m, Wk P false (K1 ty Wg) (SD2 P ty Wg) m g')
def SK1 (g : Goroutine) (w : World) : Prop := g.status = .running ∧ ∃ g', stepG P false g w = .go g' w #[mk .disable] ∧ ∃ m, Wk P false (Kc ty Wg) (SD1 P ty Wg) m g'
def SR0 (g : Goroutine) (w : World) : Prop := g.status = .running ∧ ∃ g', stepG P false g w = .go g' w #[mk (.releaseMerge (stA Wg))] ∧ ∃ m, Wk P false (Kc ty Wg) (SK1 P ty Wg) m g'
/-! the caller, from its end -/
variable (Fin : Goroutine → Prop) (Anch : Goroutine → Prop)
def SAc (g : Goroutine) (w : World) : Prop := g.status = .running ∧ ∃ g', stepG P true g w = .go g' w #[mk (.acquire (stA Wg))] ∧ Fin g'
def SKe (g : Goroutine) (w : World) : Prop := g.status = .running ∧ ∃ g', stepG P true g w = .go g' w #[mk .enable] ∧ ∃ m, Wk P true (K0 ty Wg) (SAc P Wg Fin) m g'
def SW4 (g : Goroutine) (w : World) : Prop := g.status = .running ∧ ∃ g', stepG P true g w = .go g' w #[rd (stA Wg)] ∧ ∃ m, Wk P true (K0 ty Wg) (SKe P ty Wg Fin) m g'
def SW3 (g : Goroutine) (w : World) : Prop := g.status = .running ∧ g.offers = none ∧
 (∀ st, WgAt ty Wg w st 0 → stepG P true g w = .go { g with status := .blocked } w #[]) ∧
 (WgAt ty Wg w 0 1 → ∃ g', stepG P true g w = .go g' (w.setCell (smA Wg) (.int .u32 0)) (semEvents (smA Wg)) ∧ ∃ m, Wk P true (K0 ty Wg) (SW4 P ty Wg Fin) m g')
def SWr (g : Goroutine) (w : World) : Prop := g.status = .running ∧ ∃ g', stepG P true g w = .go g' w #[mk (.write (smA Wg))] ∧ ∃ m, Wk P true (Kb ty Wg) (SW3 P ty Wg Fin) m g'
def SW2 (g : Goroutine) (w : World) : Prop := g.status = .running ∧
 (WgAt ty Wg w KK 0 → ∃ g', stepG P true g w = .go g' (w.setCell (stA Wg) (.int .u64 (KK + 1))) #[rd (stA Wg), wr (stA Wg)] ∧ ∃ m, Wk P true (Kb ty Wg) (SWr P ty Wg Fin) m g') ∧
 (WgAt ty Wg w 0 0 → ∃ g', stepG P true g w = .go g' w #[rd (stA Wg)] ∧ ∃ m, Wk P true (Ka ty Wg) (fun g _ => Anch g) m g')
def SW1 (g : Goroutine) (w : World) : Prop := g.status = .running ∧ ∃ g', stepG P true g w = .go g' w #[rd (stA Wg)] ∧
 (WgAt ty Wg w KK 0 → ∃ m, Wk P true (Ka ty Wg) (SW2 P ty Wg Fin Anch) m g') ∧ (WgAt ty Wg w 0 0 → ∃ m, Wk P true (K0 ty Wg) (SKe P ty Wg Fin) m g')
def SKd (g : Goroutine) (w : World) : Prop := g.status = .running ∧ ∃ g', stepG P true g w = .go g' w #[mk .disable] ∧ ∃ m, Wk P true (Ka ty Wg) (fun g _ => Anch g) m g'
/-! where each stands -/
def PA (x0 : Nat) (x1 : Nat) (x2 : Nat) (x3 : Goroutine) : Prop :=
 ∀ C : Nat → Nat → Nat → Goroutine → Prop,
  (∀ m g, Wk P true (Ka ty Wg) (SKd P ty Wg Anch) m g → C 4 0 m g) →
  (∀ m g, Wk P true (Ka ty Wg) (fun g _ => Anch g) m g → C 3 1 m g) →
  (∀ m g, Wk P true (Ka ty Wg) (SW1 P ty Wg Fin Anch) m g → C 2 1 m g) →
  (∀ m g, Wk P true (Ka ty Wg) (SW2 P ty Wg Fin Anch) m g → C 1 1 m g) →
  C x0 x1 x2 x3
variable {P ty Wg Fin Anch}
theorem PA.kd {m g} (h0 : Wk P true (Ka ty Wg) (SKd P ty Wg Anch) m g) : PA P ty Wg Fin Anch 4 0 m g := fun _ k0 k1 k2 k3 => k0 _ _ h0
theorem PA.an {m g} (h0 : Wk P true (Ka ty Wg) (fun g _ => Anch g) m g) : PA P ty Wg Fin Anch 3 1 m g := fun _ k0 k1 k2 k3 => k1 _ _ h0
theorem PA.w1 {m g} (h0 : Wk P true (Ka ty Wg) (SW1 P ty Wg Fin Anch) m g) : PA P ty Wg Fin Anch 2 1 m g := fun _ k0 k1 k2 k3 => k2 _ _ h0
theorem PA.w2 {m g} (h0 : Wk P true (Ka ty Wg) (SW2 P ty Wg Fin Anch) m g) : PA P ty Wg Fin Anch 1 1 m g := fun _ k0 k1 k2 k3 => k3 _ _ h0
theorem PA.cs {motive : ∀ (x0 : Nat) (x1 : Nat) (x2 : Nat) (x3 : Goroutine), PA P ty Wg Fin Anch x0 x1 x2 x3 → Prop}
  (kd : ∀ {m g} (h0 : Wk P true (Ka ty Wg) (SKd P ty Wg Anch) m g), motive 4 0 m g (PA.kd  h0))
  (an : ∀ {m g} (h0 : Wk P true (Ka ty Wg) (fun g _ => Anch g) m g), motive 3 1 m g (PA.an  h0))
  (w1 : ∀ {m g} (h0 : Wk P true (Ka ty Wg) (SW1 P ty Wg Fin Anch) m g), motive 2 1 m g (PA.w1  h0))
  (w2 : ∀ {m g} (h0 : Wk P true (Ka ty Wg) (SW2 P ty Wg Fin Anch) m g), motive 1 1 m g (PA.w2  h0))
  {x0 : Nat} {x1 : Nat} {x2 : Nat} {x3 : Goroutine} (h : PA P ty Wg Fin Anch x0 x1 x2 x3) : motive x0 x1 x2 x3 h :=
 h (fun x0 x1 x2 x3 => ∀ h : PA P ty Wg Fin Anch x0 x1 x2 x3, motive x0 x1 x2 x3 h) (fun _ _ h0 _ => kd h0) (fun _ _ h0 _ => an h0) (fun _ _ h0 _ => w1 h0) (fun _ _ h0 _ => w2 h0) h
variable (P ty Wg Fin Anch)
def PB (x0 : Nat) (x1 : Nat) (x2 : Goroutine) : Prop :=
 ∀ C : Nat → Nat → Goroutine → Prop,
  (∀ m g, Wk P true (Kb ty Wg) (SWr P ty Wg Fin) m g → C 2 m g) →
  (∀ m g, Wk P true (Kb ty Wg) (SW3 P ty Wg Fin) m g → C 1 m g) →
  (∀ g, (∀ w, Kb ty Wg w → SW3 P ty Wg Fin g w) → C 0 0 { g with status := .blocked }) →
  C x0 x1 x2
variable {P ty Wg Fin}
theorem PB.wr {m g} (h0 : Wk P true (Kb ty Wg) (SWr P ty Wg Fin) m g) : PB P ty Wg Fin 2 m g := fun _ k0 k1 k2 => k0 _ _ h0
theorem PB.w3 {m g} (h0 : Wk P true (Kb ty Wg) (SW3 P ty Wg Fin) m g) : PB P ty Wg Fin 1 m g := fun _ k0 k1 k2 => k1 _ _ h0
theorem PB.bl {g} (h0 : (∀ w, Kb ty Wg w → SW3 P ty Wg Fin g w)) : PB P ty Wg Fin 0 0 { g with status := .blocked } := fun _ k0 k1 k2 => k2 _ h0
theorem PB.cs {motive : ∀ (x0 : Nat) (x1 : Nat) (x2 : Goroutine), PB P ty Wg Fin x0 x1 x2 → Prop}
  (wr : ∀ {m g} (h0 : Wk P true (Kb ty Wg) (SWr P ty Wg Fin) m g), motive 2 m g (PB.wr  h0))
  (w3 : ∀ {m g} (h0 : Wk P true (Kb ty Wg) (SW3 P ty Wg Fin) m g), motive 1 m g (PB.w3  h0))
  (bl : ∀ {g} (h0 : (∀ w, Kb ty Wg w → SW3 P ty Wg Fin g w)), motive 0 0 { g with status := .blocked } (PB.bl  h0))
  {x0 : Nat} {x1 : Nat} {x2 : Goroutine} (h : PB P ty Wg Fin x0 x1 x2) : motive x0 x1 x2 h :=
 h (fun x0 x1 x2 => ∀ h : PB P ty Wg Fin x0 x1 x2, motive x0 x1 x2 h) (fun _ _ h0 _ => wr h0) (fun _ _ h0 _ => w3 h0) (fun _ h0 _ => bl h0) h
variable (P ty Wg Fin)
def PJ (x0 : Nat) (x1 : Nat) (x2 : Nat) (x3 : Goroutine) : Prop :=
 ∀ C : Nat → Nat → Nat → Goroutine → Prop,
  (∀ m g, Wk P true (K0 ty Wg) (SW4 P ty Wg Fin) m g → C 3 1 m g) →
  (∀ m g, Wk P true (K0 ty Wg) (SKe P ty Wg Fin) m g → C 2 1 m g) →
  (∀ m g, Wk P true (K0 ty Wg) (SAc P Wg Fin) m g → C 1 0 m g) →
  C x0 x1 x2 x3
variable {P ty Wg Fin}
theorem PJ.w4 {m g} (h0 : Wk P true (K0 ty Wg) (SW4 P ty Wg Fin) m g) : PJ P ty Wg Fin 3 1 m g := fun _ k0 k1 k2 => k0 _ _ h0
theorem PJ.ke {m g} (h0 : Wk P true (K0 ty Wg) (SKe P ty Wg Fin) m g) : PJ P ty Wg Fin 2 1 m g := fun _ k0 k1 k2 => k1 _ _ h0
theorem PJ.ac {m g} (h0 : Wk P true (K0 ty Wg) (SAc P Wg Fin) m g) : PJ P ty Wg Fin 1 0 m g := fun _ k0 k1 k2 => k2 _ _ h0
theorem PJ.cs {motive : ∀ (x0 : Nat) (x1 : Nat) (x2 : Nat) (x3 : Goroutine), PJ P ty Wg Fin x0 x1 x2 x3 → Prop}
  (w4 : ∀ {m g} (h0 : Wk P true (K0 ty Wg) (SW4 P ty Wg Fin) m g), motive 3 1 m g (PJ.w4  h0))
  (ke : ∀ {m g} (h0 : Wk P true (K0 ty Wg) (SKe P ty Wg Fin) m g), motive 2 1 m g (PJ.ke  h0))
  (ac : ∀ {m g} (h0 : Wk P true (K0 ty Wg) (SAc P Wg Fin) m g), motive 1 0 m g (PJ.ac  h0))
  {x0 : Nat} {x1 : Nat} {x2 : Nat} {x3 : Goroutine} (h : PJ P ty Wg Fin x0 x1 x2 x3) : motive x0 x1 x2 x3 h :=
 h (fun x0 x1 x2 x3 => ∀ h : PJ P ty Wg Fin x0 x1 x2 x3, motive x0 x1 x2 x3 h) (fun _ _ h0 _ => w4 h0) (fun _ _ h0 _ => ke h0) (fun _ _ h0 _ => ac h0) h
variable (P ty Wg Fin)
end
def EvW (Wg : Nat) (e : Event) : Prop := e.loc = .mark .disable ∨ e.loc = .mark .enable ∨ (∃ ad wr, e = ⟨.cell ad, wr, true⟩ ∧ ad.block = Wg) ∨ ∃ ad, (e.loc = .mark (.read ad) ∨ e.loc = .mark (.write ad)) ∧ ad.block = Wg
theorem ydn {e : Event} {m : Mark} (h : e.loc = .mark m) : MemAct.ofEvent e = .mark m := by
 obtain ⟨loc, a, b⟩ := e
 cases h
 rfl
theorem EvW.ops {Wg g : Nat} {fn : FuncId} {pos : String} {es : Array Event} (h : ∀ e ∈ es, EvW Wg e) {B : Nat} (hB : Wg < B) : ∀ op ∈ MemOp.ofEvents g fn pos es, (∀ b, op.act.touch? = some b → b.kind ≠ .plain ∧ OfW Wg b.loc) ∧ op.act.low B ∧ op.act ≠ .mark (.release (wA Wg)) := by
 intro op hop
 obtain ⟨e, he, rfl⟩ := Go.Conc.mem_ofEvents hop
 rcases h e he with q | q | ⟨ad, wr, rfl, hb⟩ | ⟨ad, q | q, hb⟩
 ·rw [ydn q]; exact ⟨fun b hb => (by cases hb), trivial, by simp⟩
 ·rw [ydn q]; exact ⟨fun b hb => (by cases hb), trivial, by simp⟩
 ·refine ⟨fun b hx => ?_, ?_, ?_⟩
  ·simp only [ofEvent_cell0, MemAct.touch?, Option.some.injEq] at hx
   subst hx
   exact ⟨by simp, ad, rfl, hb⟩
  ·show ad.block < B; omega
  ·rw [show MemAct.ofEvent ⟨.cell ad, wr, true⟩ = .access ⟨.cell ad, wr, true⟩ from rfl]; simp
 ·rw [ydn q]
  refine ⟨fun b hx => ?_, (by show ad.block < B; omega), by simp⟩
  simp only [MemAct.touch?, Option.some.injEq] at hx
  subst hx
  exact ⟨by simp, ad, rfl, hb⟩
 ·rw [ydn q]
  refine ⟨fun b hx => ?_, (by show ad.block < B; omega), by simp⟩
  simp only [MemAct.touch?, Option.some.injEq] at hx
  subst hx
  exact ⟨by simp, ad, rfl, hb⟩
theorem Mid.own0 {Shun : Loc → Prop} {B Wg c d0 dc : Nat} {rel : Option Nat} {T : Trace} (h : Mid Shun B Wg c d0 dc rel T) (hc0 : c ≠ 0) (hB : Wg < B) (fn : FuncId) (pos : String) {es : Array Event} (hes : ∀ e ∈ es, EvW Wg e) : Mid Shun B Wg c (deafBehind d0 es) dc rel (T ++ MemOp.ofEvents 0 fn pos es) :=
 h.caller hc0 yfg (fun op hop => (EvW.ops hes hB op hop).1) (by rw [Deaf_own, h.deaf0]) (fun op hop => (EvW.ops hes hB op hop).2.1) (fun op hop => (EvW.ops hes hB op hop).2.2)
theorem Mid.still {Shun : Loc → Prop} {B Wg c d0 dc : Nat} {rel : Option Nat} {T : Trace} (h : Mid Shun B Wg c d0 dc rel T) (g : Nat) (fn : FuncId) (pos : String) : Mid Shun B Wg c d0 dc rel (T ++ MemOp.ofEvents g fn pos #[]) := by
 have : T ++ MemOp.ofEvents g fn pos #[] = T := by simp [MemOp.ofEvents]
 rw [this]; exact h
theorem evw_rd {Wg : Nat} : ∀ e ∈ #[rd (stA Wg)], EvW Wg e := by
 intro e he
 simp at he
 subst he
 exact .inr (.inr (.inl ⟨_, _, rfl, rfl⟩))
theorem evw_rdwr {Wg : Nat} : ∀ e ∈ #[rd (stA Wg), wr (stA Wg)], EvW Wg e := by
 intro e he
 simp at he
 rcases he with rfl | rfl <;> exact .inr (.inr (.inl ⟨_, _, rfl, rfl⟩))
theorem evw_sem {Wg : Nat} : ∀ e ∈ semEvents (smA Wg), EvW Wg e := by
 intro e he
 simp [semEvents] at he
 rcases he with rfl | rfl | rfl | rfl
 ·exact .inl rfl
 ·exact .inr (.inr (.inl ⟨_, _, rfl, rfl⟩))
 ·exact .inr (.inr (.inl ⟨_, _, rfl, rfl⟩))
 ·exact .inr (.inl rfl)
theorem evw_dis {Wg : Nat} : ∀ e ∈ #[mk .disable], EvW Wg e := by
 intro e he; simp at he; subst he; exact .inl rfl
theorem evw_ena {Wg : Nat} : ∀ e ∈ #[mk .enable], EvW Wg e := by
 intro e he; simp at he; subst he; exact .inr (.inl rfl)
theorem evw_wr {Wg : Nat} : ∀ e ∈ #[mk (.write (smA Wg))], EvW Wg e := by
 intro e he; simp at he; subst he; exact .inr (.inr (.inr ⟨_, .inr rfl, rfl⟩))
end Go.Sim

namespace Go.Sim
open Go.Conc
open Go.ConcX (WgAt wgBlock stA smA KK rd wr mk DC0)
abbrev Lx : Nat × Nat → Nat × Nat → Prop := Prod.Lex (· < ·) (· < ·)
theorem lx1 {a b c d : Nat} (h : a < b) : Lx (a, c) (b, d) := .left _ _ h
theorem lx2 {a c d : Nat} (h : c < d) : Lx (a, c) (a, d) := .right _ h
theorem kk0 : (KK : Int) ≠ 0 := by decide
theorem kk1 : (KK : Int) ≠ KK + 1 := by decide
section
variable {P : Program} {ty Wg : Nat} {Fin Anch : Goroutine → Prop} {a : Goroutine} {w : World}
theorem ycf : ∀ e ∈ (#[] : Array Event), EvW Wg e := fun e he => by simp at he
theorem PA.running {r d m : Nat} (hAr : ∀ g, Anch g → g.status = .running) (h : PA P ty Wg Fin Anch r d m a) (hw : Ka ty Wg w) : a.status = .running := by
 cases h using PA.cs with
 |kd h => exact h.running (fun _ _ x => x.1) hw
 |an h => exact h.running (fun g _ x => hAr g x) hw
 |w1 h => exact h.running (fun _ _ x => x.1) hw
 |w2 h => exact h.running (fun _ _ x => x.1) hw
theorem PJ.running {r d m : Nat} (h : PJ P ty Wg Fin r d m a) (hw : K0 ty Wg w) : a.status = .running := by
 cases h using PJ.cs with
 |w4 h => exact h.running (fun _ _ x => x.1) hw
 |ke h => exact h.running (fun _ _ x => x.1) hw
 |ac h => exact h.running (fun _ _ x => x.1) hw
theorem PB.status {r m : Nat} (h : PB P ty Wg Fin r m a) (hw : Kb ty Wg w) : (0 < r ∧ a.status = .running) ∨ (r = 0 ∧ a.status = .blocked ∧ a.offers = none) := by
 cases h using PB.cs with
 |wr h => exact .inl ⟨by omega, h.running (fun _ _ x => x.1) hw⟩
 |w3 h => exact .inl ⟨by omega, h.running (fun _ _ x => x.1) hw⟩
 |bl h => exact .inr ⟨rfl, rfl, (h w hw).2.1⟩
theorem PB.again {r m : Nat} (h : PB P ty Wg Fin r m a) (hw : Kb ty Wg w) : ∃ r' m', 0 < r' ∧ PB P ty Wg Fin r' m' (a.again w) := by
 cases h using PB.cs with
 |@wr m _ h => exact ⟨2, m, by omega, by rw [again_running w (.inl (h.running (fun _ _ x => x.1) hw))]; exact .wr h⟩
 |@w3 m _ h => exact ⟨1, m, by omega, by rw [again_running w (.inl (h.running (fun _ _ x => x.1) hw))]; exact .w3 h⟩
 |@bl g h => exact ⟨1, 0, by omega, by rw [Go.ConcX.again_blocked (h w hw).1 (h w hw).2.1]; exact .w3 (fun _ w₁ h₁ => h w₁ h₁)⟩
theorem PB.woken {r m : Nat} {b b' : Goroutine} (h : PB P ty Wg Fin r m a) (hw : Kb ty Wg w) : ∃ r' m', PB P ty Wg Fin r' m' (Go.Conc.woken P b b' w a) := by
 unfold Go.Conc.woken
 split
 ·obtain ⟨r', m', _, h'⟩ := h.again hw; exact ⟨r', m', h'⟩
 ·exact ⟨r, m, h⟩
theorem PA.moveA (hAn : ∀ g, Anch g → ∃ m, Wk P true (Ka ty Wg) (SW1 P ty Wg Fin Anch) m g) {r d m : Nat} (h : PA P ty Wg Fin Anch r d m a) (hw : WgAt ty Wg w KK 0) :
  ∃ a' w' es, stepG P true a w = .go a' w' es ∧ (∀ e ∈ es, EvW Wg e) ∧
   ((w' = w ∧ ∃ r' m', Lx (r', m') (r, m) ∧ PA P ty Wg Fin Anch r' (deafBehind d es) m' a') ∨ (w' = w.setCell (stA Wg) (.int .u64 (KK + 1)) ∧ deafBehind d es = 1 ∧ ∃ m', PB P ty Wg Fin 2 m' a')) := by
 have ka : Ka ty Wg w := .inl hw
 have w1 : ∀ m r₀ m₀, d = 1 → Lx (2, m) (r₀, m₀) ∨ (2, m) = (r₀, m₀) → Wk P true (Ka ty Wg) (SW1 P ty Wg Fin Anch) m a →
   ∃ a' w' es, stepG P true a w = .go a' w' es ∧ (∀ e ∈ es, EvW Wg e) ∧
   ((w' = w ∧ ∃ r' m', Lx (r', m') (r₀, m₀) ∧ PA P ty Wg Fin Anch r' (deafBehind d es) m' a') ∨ (w' = w.setCell (stA Wg) (.int .u64 (KK + 1)) ∧ deafBehind d es = 1 ∧ ∃ m', PB P ty Wg Fin 2 m' a')) := by
  intro m r₀ m₀ hd hl hh
  subst hd
  rcases hh.cases ka with ⟨_, g', e, hk, _⟩ | ⟨n', g', rfl, e, h'⟩
  ·obtain ⟨m', h'⟩ := hk hw
   refine ⟨g', w, _, e, evw_rd, .inl ⟨rfl, 1, m', ?_, .w2 h'⟩⟩
   rcases hl with hl | hl
   ·exact (Prod.lex_def.1 hl).elim (fun x => lx1 (by simp only at x; omega)) (fun x => lx1 (by simp only at x; omega))
   ·exact hl ▸ lx1 (by omega)
  ·refine ⟨g', w, _, e, ycf, .inl ⟨rfl, 2, n', ?_, .w1 h'⟩⟩
   rcases hl with hl | hl
   ·rcases Prod.lex_def.1 hl with x | ⟨x, y⟩
    ·exact lx1 x
    ·simp only at x y; subst x; exact lx2 (by omega)
   ·exact hl ▸ lx2 (by omega)
 cases h using PA.cs with
 |kd h =>
  rcases h.cases ka with ⟨_, g', e, m', h'⟩ | ⟨n', g', rfl, e, h'⟩
  ·exact ⟨g', w, _, e, evw_dis, .inl ⟨rfl, 3, m', lx1 (by omega), .an h'⟩⟩
  ·exact ⟨g', w, _, e, ycf, .inl ⟨rfl, 4, n', lx2 (by omega), .kd h'⟩⟩
 |an h =>
  rcases h.cases ka with hs | ⟨n', g', rfl, e, h'⟩
  ·obtain ⟨m1, h1⟩ := hAn a hs
   exact w1 m1 3 m rfl (.inl (lx1 (by omega))) h1
  ·exact ⟨g', w, _, e, ycf, .inl ⟨rfl, 3, n', lx2 (by omega), .an h'⟩⟩
 |w1 h => exact w1 m 2 m rfl (.inr rfl) h
 |w2 h =>
  rcases h.cases ka with ⟨_, hhit, _⟩ | ⟨n', g', rfl, e, h'⟩
  ·obtain ⟨g', e, m', h'⟩ := hhit hw
   exact ⟨g', _, _, e, evw_rdwr, .inr ⟨rfl, rfl, m', .wr h'⟩⟩
  ·exact ⟨g', w, _, e, ycf, .inl ⟨rfl, 1, n', lx2 (by omega), .w2 h'⟩⟩
def rhoC (r : Nat) : Nat := if r = 1 then 4 else r
theorem PA.moveC (hAn : ∀ g, Anch g → ∃ m, Wk P true (Ka ty Wg) (SW1 P ty Wg Fin Anch) m g) {r d m : Nat} (h : PA P ty Wg Fin Anch r d m a) (hw : WgAt ty Wg w 0 0) :
  ∃ a' es, stepG P true a w = .go a' w es ∧ (∀ e ∈ es, EvW Wg e) ∧
   ((∃ r' m', Lx (rhoC r', m') (rhoC r, m) ∧ PA P ty Wg Fin Anch r' (deafBehind d es) m' a') ∨ (deafBehind d es = 1 ∧ ∃ m', PJ P ty Wg Fin 2 1 m' a')) := by
 have ka : Ka ty Wg w := .inr hw
 have w1 : ∀ m r₀ m₀, d = 1 → Lx (2, m) (rhoC r₀, m₀) ∨ (2, m) = (rhoC r₀, m₀) → Wk P true (Ka ty Wg) (SW1 P ty Wg Fin Anch) m a →
   ∃ a' es, stepG P true a w = .go a' w es ∧ (∀ e ∈ es, EvW Wg e) ∧
   ((∃ r' m', Lx (rhoC r', m') (rhoC r₀, m₀) ∧ PA P ty Wg Fin Anch r' (deafBehind d es) m' a') ∨ (deafBehind d es = 1 ∧ ∃ m', PJ P ty Wg Fin 2 1 m' a')) := by
  intro m r₀ m₀ hd hl hh
  subst hd
  rcases hh.cases ka with ⟨_, g', e, _, hk⟩ | ⟨n', g', rfl, e, h'⟩
  ·obtain ⟨m', h'⟩ := hk hw
   exact ⟨g', _, e, evw_rd, .inr ⟨rfl, m', .ke h'⟩⟩
  ·refine ⟨g', _, e, ycf, .inl ⟨2, n', ?_, .w1 h'⟩⟩
   show Lx (2, n') _
   rcases hl with hl | hl
   ·rcases Prod.lex_def.1 hl with x | ⟨x, y⟩
    ·exact lx1 x
    ·simp only at x y; rw [← x]; exact lx2 (by omega)
   ·rw [← hl]; exact lx2 (by omega)
 cases h using PA.cs with
 |kd h =>
  rcases h.cases ka with ⟨_, g', e, m', h'⟩ | ⟨n', g', rfl, e, h'⟩
  ·exact ⟨g', _, e, evw_dis, .inl ⟨3, m', lx1 (by decide), .an h'⟩⟩
  ·exact ⟨g', _, e, ycf, .inl ⟨4, n', lx2 (by omega), .kd h'⟩⟩
 |an h =>
  rcases h.cases ka with hs | ⟨n', g', rfl, e, h'⟩
  ·obtain ⟨m1, h1⟩ := hAn a hs
   exact w1 m1 3 m rfl (.inl (lx1 (by decide))) h1
  ·exact ⟨g', _, e, ycf, .inl ⟨3, n', lx2 (by omega), .an h'⟩⟩
 |w1 h => exact w1 m 2 m rfl (.inr rfl) h
 |w2 h =>
  rcases h.cases ka with ⟨_, _, hmiss⟩ | ⟨n', g', rfl, e, h'⟩
  ·obtain ⟨g', e, m', h'⟩ := hmiss hw
   exact ⟨g', _, e, evw_rd, .inl ⟨3, m', lx1 (by decide), .an h'⟩⟩
  ·exact ⟨g', _, e, ycf, .inl ⟨1, n', lx2 (by omega), .w2 h'⟩⟩
theorem PB.move0 {r m : Nat} {st : Int} (hr : 0 < r) (h : PB P ty Wg Fin r m a) (hw : WgAt ty Wg w st 0) (hk : Kb ty Wg w) :
  ∃ a' es, stepG P true a w = .go a' w es ∧ (∀ e ∈ es, EvW Wg e) ∧ deafBehind 1 es = 1 ∧ ∃ r' m', Lx (r', m') (r, m) ∧ PB P ty Wg Fin r' m' a' := by
 cases h using PB.cs with
 |wr h =>
  rcases h.cases hk with ⟨_, g', e, m', h'⟩ | ⟨n', g', rfl, e, h'⟩
  ·exact ⟨g', _, e, evw_wr, rfl, 1, m', lx1 (by omega), .w3 h'⟩
  ·exact ⟨g', _, e, ycf, rfl, 2, n', lx2 (by omega), .wr h'⟩
 |w3 h =>
  rcases Goes.cases (h w) with hs | ⟨n', rfl, hs⟩
  ·obtain ⟨_, _, hb, _⟩ := hs w hk
   exact ⟨_, _, hb st hw, ycf, rfl, 0, 0, lx1 (by omega), .bl (fun w₁ h₁ => hs w₁ h₁)⟩
  ·rcases h.cases hk with hx | ⟨n2, g', e0, e, h'⟩
   ·obtain ⟨g', w', es, e, ⟨rfl, rfl⟩, hg⟩ := hs w hk
    exact ⟨g', _, e, ycf, rfl, 1, n', lx2 (by omega), .w3 (Wk.of hg)⟩
   ·exact ⟨g', _, e, ycf, rfl, 1, n2, lx2 (by omega), .w3 h'⟩
 |bl h => omega
theorem PB.moveF {r m : Nat} (hr : 0 < r) (h : PB P ty Wg Fin r m a) (hw : WgAt ty Wg w 0 1) :
  ∃ a' w' es, stepG P true a w = .go a' w' es ∧ (∀ e ∈ es, EvW Wg e) ∧ deafBehind 1 es = 1 ∧
   ((w' = w ∧ ∃ r' m', 0 < r' ∧ Lx (r', m') (r, m) ∧ PB P ty Wg Fin r' m' a') ∨ (w' = w.setCell (smA Wg) (.int .u32 0) ∧ ∃ m', PJ P ty Wg Fin 3 1 m' a')) := by
 have hk : Kb ty Wg w := .inr (.inr (.inr hw))
 cases h using PB.cs with
 |wr h =>
  rcases h.cases hk with ⟨_, g', e, m', h'⟩ | ⟨n', g', rfl, e, h'⟩
  ·exact ⟨g', _, _, e, evw_wr, rfl, .inl ⟨rfl, 1, m', by omega, lx1 (by omega), .w3 h'⟩⟩
  ·exact ⟨g', _, _, e, ycf, rfl, .inl ⟨rfl, 2, n', by omega, lx2 (by omega), .wr h'⟩⟩
 |w3 h =>
  rcases h.cases hk with ⟨_, _, _, ht⟩ | ⟨n', g', rfl, e, h'⟩
  ·obtain ⟨g', e, m', h'⟩ := ht hw
   exact ⟨g', _, _, e, evw_sem, rfl, .inr ⟨rfl, m', .w4 h'⟩⟩
  ·exact ⟨g', _, _, e, ycf, rfl, .inl ⟨rfl, 1, n', by omega, lx2 (by omega), .w3 h'⟩⟩
 |bl h => omega
theorem PJ.move {r d m : Nat} (h : PJ P ty Wg Fin r d m a) (hw : WgAt ty Wg w 0 0) :
  (∃ a' es, stepG P true a w = .go a' w es ∧ (∀ e ∈ es, EvW Wg e) ∧ ∃ r' m', Lx (r', m') (r, m) ∧ PJ P ty Wg Fin r' (deafBehind d es) m' a') ∨
  (d = 0 ∧ ∃ a', stepG P true a w = .go a' w #[mk (.acquire (stA Wg))] ∧ Fin a') := by
 have hk : K0 ty Wg w := hw
 cases h using PJ.cs with
 |w4 h =>
  rcases h.cases hk with ⟨_, g', e, m', h'⟩ | ⟨n', g', rfl, e, h'⟩
  ·exact .inl ⟨g', _, e, evw_rd, 2, m', lx1 (by omega), .ke h'⟩
  ·exact .inl ⟨g', _, e, ycf, 3, n', lx2 (by omega), .w4 h'⟩
 |ke h =>
  rcases h.cases hk with ⟨_, g', e, m', h'⟩ | ⟨n', g', rfl, e, h'⟩
  ·exact .inl ⟨g', _, e, evw_ena, 1, m', lx1 (by omega), .ac h'⟩
  ·exact .inl ⟨g', _, e, ycf, 2, n', lx2 (by omega), .ke h'⟩
 |ac h =>
  rcases h.cases hk with ⟨_, g', e, h'⟩ | ⟨n', g', rfl, e, h'⟩
  ·exact .inr ⟨rfl, g', e, h'⟩
  ·exact .inl ⟨g', _, e, ycf, 1, n', lx2 (by omega), .ac h'⟩
end
/-! the child's last words -/
section
variable (P : Program) (ty Wg : Nat)
def CA (x0 : Nat) (x1 : Nat) (x2 : Bool) (x3 : Nat) (x4 : Goroutine) : Prop :=
 ∀ C : Nat → Nat → Bool → Nat → Goroutine → Prop,
  (∀ m g, Wk P false (Kc ty Wg) (SR0 P ty Wg) m g → C 7 0 false m g) →
  (∀ m g, Wk P false (Kc ty Wg) (SK1 P ty Wg) m g → C 6 0 true m g) →
  (∀ m g, Wk P false (Kc ty Wg) (SD1 P ty Wg) m g → C 5 1 true m g) →
  C x0 x1 x2 x3 x4
variable {P ty Wg}
theorem CA.r0 {m g} (h0 : Wk P false (Kc ty Wg) (SR0 P ty Wg) m g) : CA P ty Wg 7 0 false m g := fun _ k0 k1 k2 => k0 _ _ h0
theorem CA.k1 {m g} (h0 : Wk P false (Kc ty Wg) (SK1 P ty Wg) m g) : CA P ty Wg 6 0 true m g := fun _ k0 k1 k2 => k1 _ _ h0
theorem CA.d1 {m g} (h0 : Wk P false (Kc ty Wg) (SD1 P ty Wg) m g) : CA P ty Wg 5 1 true m g := fun _ k0 k1 k2 => k2 _ _ h0
theorem CA.cs {motive : ∀ (x0 : Nat) (x1 : Nat) (x2 : Bool) (x3 : Nat) (x4 : Goroutine), CA P ty Wg x0 x1 x2 x3 x4 → Prop}
  (r0 : ∀ {m g} (h0 : Wk P false (Kc ty Wg) (SR0 P ty Wg) m g), motive 7 0 false m g (CA.r0  h0))
  (k1 : ∀ {m g} (h0 : Wk P false (Kc ty Wg) (SK1 P ty Wg) m g), motive 6 0 true m g (CA.k1  h0))
  (d1 : ∀ {m g} (h0 : Wk P false (Kc ty Wg) (SD1 P ty Wg) m g), motive 5 1 true m g (CA.d1  h0))
  {x0 : Nat} {x1 : Nat} {x2 : Bool} {x3 : Nat} {x4 : Goroutine} (h : CA P ty Wg x0 x1 x2 x3 x4) : motive x0 x1 x2 x3 x4 h :=
 h (fun x0 x1 x2 x3 x4 => ∀ h : CA P ty Wg x0 x1 x2 x3 x4, motive x0 x1 x2 x3 x4 h) (fun _ _ h0 _ => r0 h0) (fun _ _ h0 _ => k1 h0) (fun _ _ h0 _ => d1 h0) h
variable (P ty Wg)
def CD (x0 : Nat) (x1 : Int) (x2 : Nat) (x3 : Goroutine) : Prop :=
 ∀ C : Nat → Int → Nat → Goroutine → Prop,
  (∀ m g, Wk P false (K1 ty Wg) (SD2 P ty Wg) m g → C 4 1 m g) →
  (∀ m g, Wk P false (K1 ty Wg) (SD3 P ty Wg) m g → C 3 1 m g) →
  (∀ m g, Wk P false (K0 ty Wg) (SD4 P Wg) m g → C 2 0 m g) →
  C x0 x1 x2 x3
variable {P ty Wg}
theorem CD.d2 {m g} (h0 : Wk P false (K1 ty Wg) (SD2 P ty Wg) m g) : CD P ty Wg 4 1 m g := fun _ k0 k1 k2 => k0 _ _ h0
theorem CD.d3 {m g} (h0 : Wk P false (K1 ty Wg) (SD3 P ty Wg) m g) : CD P ty Wg 3 1 m g := fun _ k0 k1 k2 => k1 _ _ h0
theorem CD.d4 {m g} (h0 : Wk P false (K0 ty Wg) (SD4 P Wg) m g) : CD P ty Wg 2 0 m g := fun _ k0 k1 k2 => k2 _ _ h0
theorem CD.cs {motive : ∀ (x0 : Nat) (x1 : Int) (x2 : Nat) (x3 : Goroutine), CD P ty Wg x0 x1 x2 x3 → Prop}
  (d2 : ∀ {m g} (h0 : Wk P false (K1 ty Wg) (SD2 P ty Wg) m g), motive 4 1 m g (CD.d2  h0))
  (d3 : ∀ {m g} (h0 : Wk P false (K1 ty Wg) (SD3 P ty Wg) m g), motive 3 1 m g (CD.d3  h0))
  (d4 : ∀ {m g} (h0 : Wk P false (K0 ty Wg) (SD4 P Wg) m g), motive 2 0 m g (CD.d4  h0))
  {x0 : Nat} {x1 : Int} {x2 : Nat} {x3 : Goroutine} (h : CD P ty Wg x0 x1 x2 x3) : motive x0 x1 x2 x3 h :=
 h (fun x0 x1 x2 x3 => ∀ h : CD P ty Wg x0 x1 x2 x3, motive x0 x1 x2 x3 h) (fun _ _ h0 _ => d2 h0) (fun _ _ h0 _ => d3 h0) (fun _ _ h0 _ => d4 h0) h
variable (P ty Wg)
end
section
variable {P : Program} {ty Wg : Nat} {b : Goroutine} {w : World}
theorem CA.running {r d m : Nat} {q : Bool} (h : CA P ty Wg r d q m b) (hw : Kc ty Wg w) : b.status = .running := by
 cases h using CA.cs with
 |r0 h => exact h.running (fun _ _ x => x.1) hw
 |k1 h => exact h.running (fun _ _ x => x.1) hw
 |d1 h => exact h.running (fun _ _ x => x.1) hw
theorem CD.running {r m : Nat} {st : Int} (h : CD P ty Wg r st m b) (hw : WgAt ty Wg w st 0) : b.status = .running := by
 cases h using CD.cs with
 |d2 h => exact h.running (fun _ _ x => x.1) hw
 |d3 h => exact h.running (fun _ _ x => x.1) hw
 |d4 h => exact h.running (fun _ _ x => x.1) hw
theorem CA.move {r d m : Nat} {q : Bool} {st : Int} (h : CA P ty Wg r d q m b) (hst : st = KK ∨ st = KK + 1) (hw : WgAt ty Wg w st 0) :
  (∃ b', stepG P false b w = .go b' w #[] ∧ ∃ r' m', Lx (r', m') (r, m) ∧ CA P ty Wg r' d q m' b') ∨
  (q = false ∧ d = 0 ∧ ∃ b', stepG P false b w = .go b' w #[mk (.releaseMerge (stA Wg))] ∧ ∃ r' m', Lx (r', m') (r, m) ∧ CA P ty Wg r' 0 true m' b') ∨
  (q = true ∧ d = 0 ∧ ∃ b', stepG P false b w = .go b' w #[mk .disable] ∧ ∃ r' m', Lx (r', m') (r, m) ∧ CA P ty Wg r' 1 true m' b') ∨
  (q = true ∧ d = 1 ∧ ((st = KK ∧ ∃ b', stepG P false b w = .go b' (w.setCell (stA Wg) (.int .u64 0)) #[rd (stA Wg), wr (stA Wg)] ∧ ∃ k, QuitsD P k 1 b') ∨
   (st = KK + 1 ∧ ∃ b', stepG P false b w = .go b' (w.setCell (stA Wg) (.int .u64 1)) #[rd (stA Wg), wr (stA Wg)] ∧ ∃ m', CD P ty Wg 4 1 m' b'))) := by
 have hk : Kc ty Wg w := by rcases hst with e | e <;> subst e; exact .inl hw; exact .inr hw
 cases h using CA.cs with
 |r0 h =>
  rcases h.cases hk with ⟨_, g', e, m', h'⟩ | ⟨n', g', rfl, e, h'⟩
  ·exact .inr (.inl ⟨rfl, rfl, g', e, 6, m', lx1 (by omega), .k1 h'⟩)
  ·exact .inl ⟨g', e, 7, n', lx2 (by omega), .r0 h'⟩
 |k1 h =>
  rcases h.cases hk with ⟨_, g', e, m', h'⟩ | ⟨n', g', rfl, e, h'⟩
  ·exact .inr (.inr (.inl ⟨rfl, rfl, g', e, 5, m', lx1 (by omega), .d1 h'⟩))
  ·exact .inl ⟨g', e, 6, n', lx2 (by omega), .k1 h'⟩
 |d1 h =>
  rcases h.cases hk with ⟨_, h1, h2⟩ | ⟨n', g', rfl, e, h'⟩
  ·refine .inr (.inr (.inr ⟨rfl, rfl, ?_⟩))
   rcases hst with e | e <;> subst e
   ·obtain ⟨g', e, k, hq⟩ := h1 hw
    exact .inl ⟨rfl, g', e, k, hq⟩
   ·obtain ⟨g', e, m', h'⟩ := h2 hw
    exact .inr ⟨rfl, g', e, m', .d2 h'⟩
  ·exact .inl ⟨g', e, 5, n', lx2 (by omega), .d1 h'⟩
theorem CD.move {r m : Nat} {st : Int} (h : CD P ty Wg r st m b) (hw : WgAt ty Wg w st 0) :
  (∃ b' es st', stepG P false b w = .go b' (if st' = st then w else w.setCell (stA Wg) (.int .u64 st')) es ∧ (es = #[] ∨ es = #[rd (stA Wg)] ∨ es = #[wr (stA Wg)]) ∧ ∃ r' m', Lx (r', m') (r, m) ∧ CD P ty Wg r' st' m' b') ∨
  (st = 0 ∧ mayWake P b = true ∧ ∃ b', stepG P false b w = .go b' (w.setCell (smA Wg) (.int .u32 1)) (semEvents (smA Wg)) ∧ ∃ k, QuitsD P k 1 b') := by
 cases h using CD.cs with
 |d2 h =>
  rcases h.cases hw with ⟨_, g', e, m', h'⟩ | ⟨n', g', rfl, e, h'⟩
  ·exact .inl ⟨g', _, 1, e, .inr (.inl rfl), 3, m', lx1 (by omega), .d3 h'⟩
  ·exact .inl ⟨g', _, 1, e, .inl rfl, 4, n', lx2 (by omega), .d2 h'⟩
 |d3 h =>
  rcases h.cases hw with ⟨_, g', e, m', h'⟩ | ⟨n', g', rfl, e, h'⟩
  ·exact .inl ⟨g', _, 0, e, .inr (.inr rfl), 2, m', lx1 (by omega), .d4 h'⟩
  ·exact .inl ⟨g', _, 1, e, .inl rfl, 3, n', lx2 (by omega), .d3 h'⟩
 |d4 h =>
  rcases h.cases hw with ⟨_, hm, g', e, k, hq⟩ | ⟨n', g', rfl, e, h'⟩
  ·exact .inr ⟨rfl, hm, g', e, k, hq⟩
  ·exact .inl ⟨g', _, 0, e, .inl rfl, 2, n', lx2 (by omega), .d4 h'⟩
end
end Go.Sim

namespace Go.Sim
open Go.Conc
open Go.ConcX (WgAt wgBlock stA smA KK rd wr mk DC0)
open Go.ConcN (sumTo upd)
structure Holds (Wg : Nat) (J : World → Prop) : Prop where
 at_ : ∀ w d, J w → J (w.at d)
 st : ∀ w x, J w → J (w.setCell (stA Wg) x)
 sm : ∀ w x, J w → J (w.setCell (smA Wg) x)
section
variable (P : Program) (ty Wg c B : Nat) (Shun : Loc → Prop) (Fin Anch : Goroutine → Prop) (J : World → Prop)
def Joined (gs : Array Goroutine) (w : World) (T : Trace) : Prop :=
 ∃ a q, gs.size = c + 1 ∧ gs[0]? = some a ∧ Fin a ∧ Leavers P T gs q ∧ Past (fun l => Shun l ∨ OfW Wg l) B T ∧ J w ∧ WgAt ty Wg w 0 0
def ywe (q : Bool) (rel : Option Nat) : Prop := if q then rel ≠ none else rel = none
def JS (x0 : Nat × Nat × Nat × Nat) (x1 : Goroutine) (x2 : Goroutine) (x3 : World) (x4 : Trace) : Prop :=
 ∀ C : Nat × Nat × Nat × Nat → Goroutine → Goroutine → World → Trace → Prop,
  (∀ a b w T rp d0 mp rc dc q mc rel, PA P ty Wg Fin Anch rp d0 mp a → CA P ty Wg rc dc q mc b → WgAt ty Wg w KK 0 → ywe q rel → Mid Shun B Wg c d0 dc rel T → J w → C (rc, mc, rp + 3, mp) a b w T) →
  (∀ a b w T rp mp rc dc q mc rel, PB P ty Wg Fin rp mp a → CA P ty Wg rc dc q mc b → WgAt ty Wg w (KK + 1) 0 → ywe q rel → Mid Shun B Wg c 1 dc rel T → J w → C (rc, mc, rp, mp) a b w T) →
  (∀ a b w T rp d0 mp dc k rel, PA P ty Wg Fin Anch rp d0 mp a → QuitsD P k dc b → WgAt ty Wg w 0 0 → rel ≠ none → Mid Shun B Wg c d0 dc rel T → J w → C (0, k, rhoC rp + 4, mp) a b w T) →
  (∀ a b w T rp mp rc st mc rel, PB P ty Wg Fin rp mp a → CD P ty Wg rc st mc b → WgAt ty Wg w st 0 → Kb ty Wg w → rel ≠ none → Mid Shun B Wg c 1 1 rel T → J w → C (rc, mc, rp, mp) a b w T) →
  (∀ a b w T rp mp dc k rel, PB P ty Wg Fin rp mp a → 0 < rp → QuitsD P k dc b → WgAt ty Wg w 0 1 → rel ≠ none → Mid Shun B Wg c 1 dc rel T → J w → C (0, k, rp + 4, mp) a b w T) →
  (∀ a b w T rp d0 mp dc k rel, PJ P ty Wg Fin rp d0 mp a → QuitsD P k dc b → WgAt ty Wg w 0 0 → rel ≠ none → Mid Shun B Wg c d0 dc rel T → J w → C (0, k, rp, mp) a b w T) →
  C x0 x1 x2 x3 x4
variable {P ty Wg c B Shun Fin Anch J}
theorem JS.a {a b w T rp d0 mp rc dc q mc rel} (h0 : PA P ty Wg Fin Anch rp d0 mp a) (h1 : CA P ty Wg rc dc q mc b) (h2 : WgAt ty Wg w KK 0) (h3 : ywe q rel) (h4 : Mid Shun B Wg c d0 dc rel T) (h5 : J w) : JS P ty Wg c B Shun Fin Anch J (rc, mc, rp + 3, mp) a b w T := fun _ k0 k1 k2 k3 k4 k5 => k0 _ _ _ _ _ _ _ _ _ _ _ _ h0 h1 h2 h3 h4 h5
theorem JS.b {a b w T rp mp rc dc q mc rel} (h0 : PB P ty Wg Fin rp mp a) (h1 : CA P ty Wg rc dc q mc b) (h2 : WgAt ty Wg w (KK + 1) 0) (h3 : ywe q rel) (h4 : Mid Shun B Wg c 1 dc rel T) (h5 : J w) : JS P ty Wg c B Shun Fin Anch J (rc, mc, rp, mp) a b w T := fun _ k0 k1 k2 k3 k4 k5 => k1 _ _ _ _ _ _ _ _ _ _ _ h0 h1 h2 h3 h4 h5
theorem JS.cc {a b w T rp d0 mp dc k rel} (h0 : PA P ty Wg Fin Anch rp d0 mp a) (h1 : QuitsD P k dc b) (h2 : WgAt ty Wg w 0 0) (h3 : rel ≠ none) (h4 : Mid Shun B Wg c d0 dc rel T) (h5 : J w) : JS P ty Wg c B Shun Fin Anch J (0, k, rhoC rp + 4, mp) a b w T := fun _ k0 k1 k2 k3 k4 k5 => k2 _ _ _ _ _ _ _ _ _ _ h0 h1 h2 h3 h4 h5
theorem JS.d {a b w T rp mp rc st mc rel} (h0 : PB P ty Wg Fin rp mp a) (h1 : CD P ty Wg rc st mc b) (h2 : WgAt ty Wg w st 0) (h3 : Kb ty Wg w) (h4 : rel ≠ none) (h5 : Mid Shun B Wg c 1 1 rel T) (h6 : J w) : JS P ty Wg c B Shun Fin Anch J (rc, mc, rp, mp) a b w T := fun _ k0 k1 k2 k3 k4 k5 => k3 _ _ _ _ _ _ _ _ _ _ h0 h1 h2 h3 h4 h5 h6
theorem JS.f {a b w T rp mp dc k rel} (h0 : PB P ty Wg Fin rp mp a) (h1 : 0 < rp) (h2 : QuitsD P k dc b) (h3 : WgAt ty Wg w 0 1) (h4 : rel ≠ none) (h5 : Mid Shun B Wg c 1 dc rel T) (h6 : J w) : JS P ty Wg c B Shun Fin Anch J (0, k, rp + 4, mp) a b w T := fun _ k0 k1 k2 k3 k4 k5 => k4 _ _ _ _ _ _ _ _ _ h0 h1 h2 h3 h4 h5 h6
theorem JS.j {a b w T rp d0 mp dc k rel} (h0 : PJ P ty Wg Fin rp d0 mp a) (h1 : QuitsD P k dc b) (h2 : WgAt ty Wg w 0 0) (h3 : rel ≠ none) (h4 : Mid Shun B Wg c d0 dc rel T) (h5 : J w) : JS P ty Wg c B Shun Fin Anch J (0, k, rp, mp) a b w T := fun _ k0 k1 k2 k3 k4 k5 => k5 _ _ _ _ _ _ _ _ _ _ h0 h1 h2 h3 h4 h5
theorem JS.cs {motive : ∀ (x0 : Nat × Nat × Nat × Nat) (x1 : Goroutine) (x2 : Goroutine) (x3 : World) (x4 : Trace), JS P ty Wg c B Shun Fin Anch J x0 x1 x2 x3 x4 → Prop}
  (a : ∀ {a b w T rp d0 mp rc dc q mc rel} (h0 : PA P ty Wg Fin Anch rp d0 mp a) (h1 : CA P ty Wg rc dc q mc b) (h2 : WgAt ty Wg w KK 0) (h3 : ywe q rel) (h4 : Mid Shun B Wg c d0 dc rel T) (h5 : J w), motive (rc, mc, rp + 3, mp) a b w T (JS.a  h0 h1 h2 h3 h4 h5))
  (b : ∀ {a b w T rp mp rc dc q mc rel} (h0 : PB P ty Wg Fin rp mp a) (h1 : CA P ty Wg rc dc q mc b) (h2 : WgAt ty Wg w (KK + 1) 0) (h3 : ywe q rel) (h4 : Mid Shun B Wg c 1 dc rel T) (h5 : J w), motive (rc, mc, rp, mp) a b w T (JS.b  h0 h1 h2 h3 h4 h5))
  (cc : ∀ {a b w T rp d0 mp dc k rel} (h0 : PA P ty Wg Fin Anch rp d0 mp a) (h1 : QuitsD P k dc b) (h2 : WgAt ty Wg w 0 0) (h3 : rel ≠ none) (h4 : Mid Shun B Wg c d0 dc rel T) (h5 : J w), motive (0, k, rhoC rp + 4, mp) a b w T (JS.cc  h0 h1 h2 h3 h4 h5))
  (d : ∀ {a b w T rp mp rc st mc rel} (h0 : PB P ty Wg Fin rp mp a) (h1 : CD P ty Wg rc st mc b) (h2 : WgAt ty Wg w st 0) (h3 : Kb ty Wg w) (h4 : rel ≠ none) (h5 : Mid Shun B Wg c 1 1 rel T) (h6 : J w), motive (rc, mc, rp, mp) a b w T (JS.d  h0 h1 h2 h3 h4 h5 h6))
  (f : ∀ {a b w T rp mp dc k rel} (h0 : PB P ty Wg Fin rp mp a) (h1 : 0 < rp) (h2 : QuitsD P k dc b) (h3 : WgAt ty Wg w 0 1) (h4 : rel ≠ none) (h5 : Mid Shun B Wg c 1 dc rel T) (h6 : J w), motive (0, k, rp + 4, mp) a b w T (JS.f  h0 h1 h2 h3 h4 h5 h6))
  (j : ∀ {a b w T rp d0 mp dc k rel} (h0 : PJ P ty Wg Fin rp d0 mp a) (h1 : QuitsD P k dc b) (h2 : WgAt ty Wg w 0 0) (h3 : rel ≠ none) (h4 : Mid Shun B Wg c d0 dc rel T) (h5 : J w), motive (0, k, rp, mp) a b w T (JS.j  h0 h1 h2 h3 h4 h5))
  {x0 : Nat × Nat × Nat × Nat} {x1 : Goroutine} {x2 : Goroutine} {x3 : World} {x4 : Trace} (h : JS P ty Wg c B Shun Fin Anch J x0 x1 x2 x3 x4) : motive x0 x1 x2 x3 x4 h :=
 h (fun x0 x1 x2 x3 x4 => ∀ h : JS P ty Wg c B Shun Fin Anch J x0 x1 x2 x3 x4, motive x0 x1 x2 x3 x4 h) (fun _ _ _ _ _ _ _ _ _ _ _ _ h0 h1 h2 h3 h4 h5 _ => a h0 h1 h2 h3 h4 h5) (fun _ _ _ _ _ _ _ _ _ _ _ h0 h1 h2 h3 h4 h5 _ => b h0 h1 h2 h3 h4 h5) (fun _ _ _ _ _ _ _ _ _ _ h0 h1 h2 h3 h4 h5 _ => cc h0 h1 h2 h3 h4 h5) (fun _ _ _ _ _ _ _ _ _ _ h0 h1 h2 h3 h4 h5 h6 _ => d h0 h1 h2 h3 h4 h5 h6) (fun _ _ _ _ _ _ _ _ _ h0 h1 h2 h3 h4 h5 h6 _ => f h0 h1 h2 h3 h4 h5 h6) (fun _ _ _ _ _ _ _ _ _ _ h0 h1 h2 h3 h4 h5 _ => j h0 h1 h2 h3 h4 h5) h
variable (P ty Wg c B Shun Fin Anch J)
end
abbrev Lq : Nat × Nat × Nat × Nat → Nat × Nat × Nat × Nat → Prop := Prod.Lex (· < ·) (Prod.Lex (· < ·) (Prod.Lex (· < ·) (· < ·)))
abbrev L5 : Nat × (Nat × Nat × Nat × Nat) → Nat × (Nat × Nat × Nat × Nat) → Prop := Prod.Lex (· < ·) Lq
theorem lq_wf : WellFounded Lq := (Prod.lex Nat.lt_wfRel (Prod.lex Nat.lt_wfRel (Prod.lex Nat.lt_wfRel Nat.lt_wfRel))).wf
theorem l5_wf : WellFounded L5 := (Prod.lex Nat.lt_wfRel ⟨Lq, lq_wf⟩).wf
theorem lqC {rc mc rc' mc' : Nat} {x y : Nat × Nat} (h : Lx (rc', mc') (rc, mc)) : Lq (rc', mc', x) (rc, mc, y) := by
 rcases Prod.lex_def.1 h with a | ⟨a, b⟩
 ·exact .left _ _ a
 ·simp only at a b; subst a; exact .right _ (.left _ _ b)
theorem lqP {rc mc rp mp rp' mp' : Nat} (h : Lx (rp', mp') (rp, mp)) : Lq (rc, mc, rp', mp') (rc, mc, rp, mp) := .right _ (.right _ h)
theorem lxs {a b c d : Nat} (k : Nat) (h : Lx (a, b) (c, d)) : Lx (a + k, b) (c + k, d) := by
 rcases Prod.lex_def.1 h with x | ⟨x, y⟩
 ·exact lx1 (by simp only at x; omega)
 ·simp only at x y; subst x; exact lx2 y
section
variable {P : Program} {ty Wg c B : Nat} {Shun : Loc → Prop} {Fin Anch : Goroutine → Prop} {J : World → Prop}
theorem yhl {dc : Nat} {es : Array Event} (h : ∀ e ∈ es, Event.mute e = true) : ∀ (j : Nat) e, es[j]? = some e → (e.loc = .mark .disable ∨ e.loc = .mark .enable) ∨ ((∃ ad wr, e = ⟨.cell ad, wr, true⟩ ∧ ad.block = Wg) ∧ 0 < deafBehind dc (es.extract 0 j)) := by
 intro j e he
 have := h e (Array.mem_of_getElem? he)
 obtain ⟨loc, x, y⟩ := e
 cases loc <;> simp_all [Event.mute]
 rename_i m
 cases m <;> simp_all
theorem ydg {i : Nat} {fn : FuncId} {pos : String} {es : Array Event} (hm : ∀ e ∈ es, Event.mute e = true) {B : Nat} : ∀ op ∈ MemOp.ofEvents i fn pos es, op.act.touch? = none ∧ op.act.low B ∧ op.act ≠ .mark (.release (wA Wg)) := by
 intro op hop
 obtain ⟨e, he, rfl⟩ := Go.Conc.mem_ofEvents hop
 refine ⟨touch_mute (hm e he), low_mute (hm e he) B, ?_⟩
 have := hm e he
 obtain ⟨loc, x, y⟩ := e
 cases loc <;> first | (cases this; done) | skip
 rename_i m
 cases m <;> first | (cases this; done) | simp [MemAct.ofEvent]
theorem yxi (g : Nat) (fn : FuncId) (pos : String) (m : Mark) : MemOp.ofEvents g fn pos #[mk m] = #[{ g, fn, pos, act := .mark m }] := by
 simp [ofEvents_eq, mk, MemAct.ofEvent]
theorem yql {dc : Nat} (hd : 0 < dc) {es : Array Event} (h : es = #[] ∨ es = #[rd (stA Wg)] ∨ es = #[wr (stA Wg)] ∨ es = #[rd (stA Wg), wr (stA Wg)]) : (∀ (j : Nat) e, es[j]? = some e → (e.loc = .mark .disable ∨ e.loc = .mark .enable) ∨ ((∃ ad wr, e = ⟨.cell ad, wr, true⟩ ∧ ad.block = Wg) ∧ 0 < deafBehind dc (es.extract 0 j))) ∧ deafBehind dc es = dc := by
 rcases h with rfl | rfl | rfl | rfl
 ·exact ⟨fun j e he => by simp at he, rfl⟩
 ·refine ⟨fun j e he => ?_, rfl⟩
  rcases j with _ | j
  ·simp at he; subst he; exact .inr ⟨⟨_, _, rfl, rfl⟩, hd⟩
  ·simp at he
 ·refine ⟨fun j e he => ?_, rfl⟩
  rcases j with _ | j
  ·simp at he; subst he; exact .inr ⟨⟨_, _, rfl, rfl⟩, hd⟩
  ·simp at he
 ·refine ⟨fun j e he => ?_, rfl⟩
  rcases j with _ | _ | j
  ·simp at he; subst he; exact .inr ⟨⟨_, _, rfl, rfl⟩, hd⟩
  ·simp at he; subst he; exact .inr ⟨⟨_, _, rfl, rfl⟩, by simpa [deafBehind, rd] using hd⟩
  ·simp at he
theorem tail_sem : (∀ (j : Nat) e, (semEvents (smA Wg))[j]? = some e → (e.loc = .mark .disable ∨ e.loc = .mark .enable) ∨ ((∃ ad wr, e = ⟨.cell ad, wr, true⟩ ∧ ad.block = Wg) ∧ 0 < deafBehind 1 ((semEvents (smA Wg)).extract 0 j))) ∧ deafBehind 1 (semEvents (smA Wg)) = 1 := by
 refine ⟨fun j e he => ?_, rfl⟩
 rcases j with _ | _ | _ | _ | j
 ·simp [semEvents] at he; subst he; exact .inl (.inl rfl)
 ·simp [semEvents] at he; subst he; exact .inr ⟨⟨_, _, rfl, rfl⟩, by simp [semEvents, deafBehind]⟩
 ·simp [semEvents] at he; subst he; exact .inr ⟨⟨_, _, rfl, rfl⟩, by simp [semEvents, deafBehind]⟩
 ·simp [semEvents] at he; subst he; exact .inl (.inr rfl)
 ·simp [semEvents] at he
theorem yna {k dc : Nat} {b : Goroutine} (h : QuitsD P k dc b) (hr : b.status = .running) (w : World) : ∃ k' b' es, k' < k ∧ (∀ e ∈ es, Event.mute e = true) ∧ stepG P false b w = .go b' w es ∧ QuitsD P k' (deafBehind dc es) b' := by
 cases k with
 |zero => rw [h.1] at hr; cases hr
 |succ k =>
  rcases h with ⟨hf, _⟩ | ⟨_, g', es, hm, hs, hq⟩
  ·rw [hf] at hr; cases hr
  ·exact ⟨k, g', es, by omega, hm, hs w, hq⟩
theorem join (hJ : Holds Wg J) (hc0 : c ≠ 0) (hB : Wg < B) (hAr : ∀ g, Anch g → g.status = .running) (hAn : ∀ g, Anch g → ∃ m, Wk P true (Ka ty Wg) (SW1 P ty Wg Fin Anch) m g) :
  ∀ (μ : Nat × (Nat × Nat × Nat × Nat)) (a b : Goroutine) (w : World) (T : Trace) (gs : Array Goroutine) (q : Nat → Nat) (sl : Option (Nat × Nat)), Two P c gs a b T q → sumTo c q = μ.1 → JS P ty Wg c B Shun Fin Anch J μ.2 a b w T → yhp P (Joined P ty Wg c B Shun Fin J) gs w sl T := by
 intro μ
 induction μ using l5_wf.induction with
 |_ μ ih =>
  obtain ⟨S, μ⟩ := μ
  intro a b w T gs q sl hT hS hj
  simp only at hS hj
  -- the next state, by somebody's own step
  have own : ∀ {μ' : Nat × Nat × Nat × Nat} {a' b' : Goroutine} {w' : World} {T' : Trace}, Lq μ' μ → JS P ty Wg c B Shun Fin Anch J μ' a' b' w' T' → ∀ gs' sl', Two P c gs' a' b' T' q → yhp P (Joined P ty Wg c B Shun Fin J) gs' w' sl' T' :=
   fun {μ' a' b' w' T'} hl hs gs' sl' ht => ih (S, μ') (.right _ hl) a' b' w' T' gs' q sl' ht hS hs
  -- another's
  have oth : ∀ {μ' : Nat × Nat × Nat × Nat} {a' b' : Goroutine} {w' : World} {T' : Trace} {q' : Nat → Nat}, sumTo c q' < sumTo c q → JS P ty Wg c B Shun Fin Anch J μ' a' b' w' T' → ∀ gs' sl', Two P c gs' a' b' T' q' → yhp P (Joined P ty Wg c B Shun Fin J) gs' w' sl' T' :=
   fun {μ' a' b' w' T' q'} hl hs gs' sl' ht => ih (sumTo c q', μ') (.left _ _ (by rw [← hS]; exact hl)) a' b' w' T' gs' q' sl' ht rfl hs
  have mt : ∀ {d0 dc : Nat} {rel : Option Nat} {i : Nat} {fn : FuncId} {pos : String} {es : Array Event}, Mid Shun B Wg c d0 dc rel T → 0 < i → i < c → (∀ e ∈ es, Event.mute e = true) → Mid Shun B Wg c d0 dc rel (T ++ MemOp.ofEvents i fn pos es) :=
   fun {d0 dc rel i fn pos es} hM h1 h2 hm => hM.mute (by omega) (by omega) yfg (fun op hop => (ydg (Wg := Wg) (B := B) hm op hop).1) (fun op hop => (ydg (Wg := Wg) hm op hop).2.1) (fun op hop => (ydg (Wg := Wg) (B := B) hm op hop).2.2)
  cases hj using JS.cs with
  |@a _ _ _ _ rp d0 mp rc dc q1 mc rel hp hc hw hrel hM hJw =>
   have ra := hp.running hAr (w := w) (.inl hw)
   have rb := hc.running (w := w) (.inl hw)
   refine ygn hT (awake_of (.inl ra)) (awake_of (.inl rb)) (.inl ra) (fun d _ => ?_) (fun d _ => ?_) (fun d i g g' es q' h1 h2 hm hl gs' sl' ht => ?_)
   ·obtain ⟨a', w', es, e, hev, hcase⟩ := hp.moveA hAn (w := w.at d) hw
    refine ⟨a', w', es, e, ?_⟩
    rw [woken_run rb]
    rcases hcase with ⟨rfl, r', m', hl, hp'⟩ | ⟨rfl, hd, m', hp'⟩
    ·exact own (lqP (lxs 3 hl)) (.a hp' hc hw hrel (hM.own0 hc0 hB _ _ hev) (hJ.at_ w d hJw))
    ·refine own (lqP (lx1 (by have : 0 < rp := by cases hp using PA.cs <;> omega
                              omega))) (.b hp' hc ?_ hrel (by have := hM.own0 hc0 hB a.frame.fn a.frame.place hev; rw [hd] at this; exact this) (hJ.st _ _ (hJ.at_ w d hJw)))
     exact Go.ConcX.WgAt.setSt (w := w.at d) hw _
   ·rcases hc.move (w := w.at d) (.inl rfl) hw with ⟨b', e, r', m', hl, hc'⟩ | ⟨rfl, rfl, b', e, r', m', hl, hc'⟩ | ⟨rfl, rfl, b', e, r', m', hl, hc'⟩ | ⟨rfl, rfl, ⟨_, b', e, k, hq⟩ | ⟨e0, _⟩⟩
    ·refine ⟨b', _, _, e, ?_⟩
     rw [woken_run ra]
     exact own (lqC hl) (.a hp hc' hw hrel (hM.still _ _ _) (hJ.at_ w d hJw))
    ·refine ⟨b', _, _, e, ?_⟩
     rw [woken_run ra]
     have hrn : rel = none := hrel
     subst hrn
     have := hM.release hc0 (y := { g := c, fn := b.frame.fn, pos := b.frame.place, act := .mark (.releaseMerge (wA Wg)) }) rfl rfl hB
     exact own (lqC hl) (.a hp hc' hw (rel := some T.size) (by simp [ywe]) (by rw [yxi]; exact this) (hJ.at_ w d hJw))
    ·refine ⟨b', _, _, e, ?_⟩
     rw [woken_run ra]
     exact own (lqC hl) (.a hp hc' hw hrel (hM.tail hrel hc0 _ _ #[mk .disable] (yhl (by intro e he; simp at he; subst he; rfl)) hB) (hJ.at_ w d hJw))
    ·refine ⟨b', _, _, e, ?_⟩
     rw [woken_run ra]
     obtain ⟨ht, hd⟩ := yql (Wg := Wg) (dc := 1) (by omega) (es := #[rd (stA Wg), wr (stA Wg)]) (.inr (.inr (.inr rfl)))
     have hM' := hM.tail hrel hc0 b.frame.fn b.frame.place _ ht hB
     rw [hd] at hM'
     exact own (.left _ _ (by cases hc using CA.cs; omega)) (.cc hp hq (Go.ConcX.WgAt.setSt (w := w.at d) hw 0) hrel hM' (hJ.st _ _ (hJ.at_ w d hJw)))
    ·exact absurd e0 kk1
   ·rw [woken_run ra, woken_run rb] at ht
    exact oth (w' := w.at d) hl (.a hp hc hw hrel (mt hM h1 h2 hm) (hJ.at_ w d hJw)) gs' sl' ht
  |@b _ _ _ _ rp mp rc dc q1 mc rel hp hc hw hrel hM hJw =>
   have hk : Kb ty Wg w := .inl hw
   have rb := hc.running (w := w) (.inr hw)
   refine ygn hT (awake_of ((hp.status hk).elim (fun x => .inl x.2) (fun x => .inr (.inl x.2.1)))) (awake_of (.inl rb)) (.inr rb) (fun d hra => ?_) (fun d _ => ?_) (fun d i g g' es q' h1 h2 hm hl gs' sl' ht => ?_)
   ·have hr0 : 0 < rp := (hp.status hk).elim (fun x => x.1) (fun x => by rw [x.2.1] at hra; cases hra)
    obtain ⟨a', es, e, hev, hd, r', m', hl, hp'⟩ := hp.move0 (w := w.at d) hr0 hw hk
    refine ⟨a', _, es, e, ?_⟩
    rw [woken_run rb]
    exact own (lqP hl) (.b hp' hc hw hrel (by have := hM.own0 hc0 hB a.frame.fn a.frame.place hev; rw [hd] at this; exact this) (hJ.at_ w d hJw))
   ·rcases hc.move (w := w.at d) (.inr rfl) hw with ⟨b', e, r', m', hl, hc'⟩ | ⟨rfl, rfl, b', e, r', m', hl, hc'⟩ | ⟨rfl, rfl, b', e, r', m', hl, hc'⟩ | ⟨rfl, rfl, ⟨e0, _⟩ | ⟨_, b', e, m', hcd⟩⟩
    ·refine ⟨b', _, _, e, ?_⟩
     obtain ⟨r2, m2, hp'⟩ := hp.woken (b := b) (b' := b') (w := w.at d) hk
     exact own (lqC hl) (.b hp' hc' hw hrel (hM.still _ _ _) (hJ.at_ w d hJw))
    ·refine ⟨b', _, _, e, ?_⟩
     obtain ⟨r2, m2, hp'⟩ := hp.woken (b := b) (b' := b') (w := w.at d) hk
     have hrn : rel = none := hrel
     subst hrn
     have := hM.release hc0 (y := { g := c, fn := b.frame.fn, pos := b.frame.place, act := .mark (.releaseMerge (wA Wg)) }) rfl rfl hB
     exact own (lqC hl) (.b hp' hc' hw (rel := some T.size) (by simp [ywe]) (by rw [yxi]; exact this) (hJ.at_ w d hJw))
    ·refine ⟨b', _, _, e, ?_⟩
     obtain ⟨r2, m2, hp'⟩ := hp.woken (b := b) (b' := b') (w := w.at d) hk
     exact own (lqC hl) (.b hp' hc' hw hrel (hM.tail hrel hc0 _ _ #[mk .disable] (yhl (by intro e he; simp at he; subst he; rfl)) hB) (hJ.at_ w d hJw))
    ·exact absurd e0.symm kk1
    ·have hw' : WgAt ty Wg ((w.at d).setCell (stA Wg) (.int .u64 1)) 1 0 := Go.ConcX.WgAt.setSt (w := w.at d) hw 1
     have hk' : Kb ty Wg ((w.at d).setCell (stA Wg) (.int .u64 1)) := .inr (.inl hw')
     refine ⟨b', _, _, e, ?_⟩
     obtain ⟨r2, m2, hp'⟩ := hp.woken (b := b) (b' := b') hk'
     obtain ⟨ht, hd⟩ := yql (Wg := Wg) (dc := 1) (by omega) (es := #[rd (stA Wg), wr (stA Wg)]) (.inr (.inr (.inr rfl)))
     have hM' := hM.tail hrel hc0 b.frame.fn b.frame.place _ ht hB
     rw [hd] at hM'
     exact own (.left _ _ (by cases hc using CA.cs; omega)) (.d hp' hcd hw' hk' hrel hM' (hJ.st _ _ (hJ.at_ w d hJw)))
   ·rw [woken_run rb] at ht
    obtain ⟨r2, m2, hp'⟩ := hp.woken (b := g) (b' := g') (w := w.at d) hk
    exact oth (w' := w.at d) hl (.b hp' hc hw hrel (mt hM h1 h2 hm) (hJ.at_ w d hJw)) gs' sl' ht
  |@cc _ _ _ _ rp d0 mp dc k rel hp hq hw hrel hM hJw =>
   have ra := hp.running hAr (w := w) (.inr hw)
   refine ygn hT (awake_of (.inl ra)) (awake_of (hq.status.elim .inl fun x => .inr (.inr x))) (.inl ra) (fun d _ => ?_) (fun d hrb => ?_) (fun d i g g' es q' h1 h2 hm hl gs' sl' ht => ?_)
   ·obtain ⟨a', es, e, hev, hcase⟩ := hp.moveC hAn (w := w.at d) hw
    refine ⟨a', _, es, e, ?_⟩
    rw [woken_quitsD hq]
    rcases hcase with ⟨r', m', hl, hp'⟩ | ⟨hd, m', hp'⟩
    ·exact own (lqP (lxs 4 hl)) (.cc hp' hq hw hrel (hM.own0 hc0 hB _ _ hev) (hJ.at_ w d hJw))
    ·exact own (lqP (lx1 (by omega))) (.j hp' hq hw hrel (by have := hM.own0 hc0 hB a.frame.fn a.frame.place hev; rw [hd] at this; exact this) (hJ.at_ w d hJw))
   ·obtain ⟨k', b', es, hlt, hm, e, hq'⟩ := yna hq hrb (w.at d)
    refine ⟨b', _, es, e, ?_⟩
    rw [woken_run ra]
    exact own (.right _ (.left _ _ hlt)) (.cc hp hq' hw hrel (hM.tail hrel hc0 _ _ es (yhl hm) hB) (hJ.at_ w d hJw))
   ·rw [woken_run ra, woken_quitsD hq] at ht
    exact oth (w' := w.at d) hl (.cc hp hq hw hrel (mt hM h1 h2 hm) (hJ.at_ w d hJw)) gs' sl' ht
  |@d _ _ _ _ rp mp rc st mc rel hp hc hw hk hrel hM hJw =>
   have rb := hc.running (w := w) hw
   refine ygn hT (awake_of ((hp.status hk).elim (fun x => .inl x.2) (fun x => .inr (.inl x.2.1)))) (awake_of (.inl rb)) (.inr rb) (fun d hra => ?_) (fun d _ => ?_) (fun d i g g' es q' h1 h2 hm hl gs' sl' ht => ?_)
   ·have hr0 : 0 < rp := (hp.status hk).elim (fun x => x.1) (fun x => by rw [x.2.1] at hra; cases hra)
    obtain ⟨a', es, e, hev, hd, r', m', hl, hp'⟩ := hp.move0 (w := w.at d) hr0 hw hk
    refine ⟨a', _, es, e, ?_⟩
    rw [woken_run rb]
    exact own (lqP hl) (.d hp' hc hw hk hrel (by have := hM.own0 hc0 hB a.frame.fn a.frame.place hev; rw [hd] at this; exact this) (hJ.at_ w d hJw))
   ·rcases hc.move (w := w.at d) hw with ⟨b', es, st', e, hes, r', m', hl, hc'⟩ | ⟨rfl, hmw, b', e, k, hq⟩
    ·have hst01 : st' = 1 ∨ st' = 0 := by cases hc' using CD.cs <;> simp
     refine ⟨b', _, _, e, ?_⟩
     have hw' : WgAt ty Wg (if st' = st then w.at d else (w.at d).setCell (stA Wg) (.int .u64 st')) st' 0 := by
      split
      ·next h => rw [h]; exact hw
      ·exact Go.ConcX.WgAt.setSt (w := w.at d) hw st'
     have hk' : Kb ty Wg (if st' = st then w.at d else (w.at d).setCell (stA Wg) (.int .u64 st')) := by
      rcases hst01 with h | h
      ·rw [h] at hw' ⊢; exact .inr (.inl hw')
      ·rw [h] at hw' ⊢; exact .inr (.inr (.inl hw'))
     have hJ' : J (if st' = st then w.at d else (w.at d).setCell (stA Wg) (.int .u64 st')) := by
      split
      ·exact hJ.at_ w d hJw
      ·exact hJ.st _ _ (hJ.at_ w d hJw)
     obtain ⟨r2, m2, hp'⟩ := hp.woken (b := b) (b' := b') hk'
     obtain ⟨htl, hd⟩ := yql (Wg := Wg) (dc := 1) (by omega) (es := es) (by rcases hes with h | h | h; exact .inl h; exact .inr (.inl h); exact .inr (.inr (.inl h)))
     have hM' := hM.tail hrel hc0 b.frame.fn b.frame.place es htl hB
     rw [hd] at hM'
     exact own (lqC hl) (.d hp' hc' hw' hk' hrel hM' hJ')
    ·have hw' : WgAt ty Wg ((w.at d).setCell (smA Wg) (.int .u32 1)) 0 1 := Go.ConcX.WgAt.setSm (w := w.at d) hw 1
     have hk' : Kb ty Wg ((w.at d).setCell (smA Wg) (.int .u32 1)) := .inr (.inr (.inr hw'))
     refine ⟨b', _, _, e, ?_⟩
     obtain ⟨r2, m2, hr2, hp'⟩ := hp.again hk'
     have hwk : Go.Conc.woken P b b' ((w.at d).setCell (smA Wg) (.int .u32 1)) a = a.again ((w.at d).setCell (smA Wg) (.int .u32 1)) := by
      unfold Go.Conc.woken
      rw [hmw]
      rcases hq.status with h | h <;> simp [h]
     rw [hwk]
     obtain ⟨htl, hd⟩ := tail_sem (Wg := Wg)
     have hM' := hM.tail hrel hc0 b.frame.fn b.frame.place _ htl hB
     rw [hd] at hM'
     exact own (.left _ _ (by cases hc using CD.cs; omega)) (.f hp' hr2 hq hw' hrel hM' (hJ.sm _ _ (hJ.at_ w d hJw)))
   ·rw [woken_run rb] at ht
    obtain ⟨r2, m2, hp'⟩ := hp.woken (b := g) (b' := g') (w := w.at d) hk
    exact oth (w' := w.at d) hl (.d hp' hc hw hk hrel (mt hM h1 h2 hm) (hJ.at_ w d hJw)) gs' sl' ht
  |@f _ _ _ _ rp mp dc k rel hp hr0 hq hw hrel hM hJw =>
   have hk : Kb ty Wg w := .inr (.inr (.inr hw))
   have ra : a.status = .running := (hp.status hk).elim (fun x => x.2) (fun x => by omega)
   refine ygn hT (awake_of (.inl ra)) (awake_of (hq.status.elim .inl fun x => .inr (.inr x))) (.inl ra) (fun d _ => ?_) (fun d hrb => ?_) (fun d i g g' es q' h1 h2 hm hl gs' sl' ht => ?_)
   ·obtain ⟨a', w', es, e, hev, hd, hcase⟩ := hp.moveF (w := w.at d) hr0 hw
    refine ⟨a', _, es, e, ?_⟩
    rw [woken_quitsD hq]
    have hM' := hM.own0 hc0 hB a.frame.fn a.frame.place hev
    rw [hd] at hM'
    rcases hcase with ⟨rfl, r', m', hr', hl, hp'⟩ | ⟨rfl, m', hp'⟩
    ·exact own (lqP (lxs 4 hl)) (.f hp' hr' hq hw hrel hM' (hJ.at_ w d hJw))
    ·exact own (lqP (lx1 (by omega))) (.j hp' hq (Go.ConcX.WgAt.setSm (w := w.at d) hw 0) hrel hM' (hJ.sm _ _ (hJ.at_ w d hJw)))
   ·obtain ⟨k', b', es, hlt, hm, e, hq'⟩ := yna hq hrb (w.at d)
    refine ⟨b', _, es, e, ?_⟩
    rw [woken_run ra]
    exact own (.right _ (.left _ _ hlt)) (.f hp hr0 hq' hw hrel (hM.tail hrel hc0 _ _ es (yhl hm) hB) (hJ.at_ w d hJw))
   ·rw [woken_run ra, woken_quitsD hq] at ht
    exact oth (w' := w.at d) hl (.f hp hr0 hq hw hrel (mt hM h1 h2 hm) (hJ.at_ w d hJw)) gs' sl' ht
  |@j _ _ _ _ rp d0 mp dc k rel hp hq hw hrel hM hJw =>
   have ra := hp.running (w := w) hw
   refine ygn hT (awake_of (.inl ra)) (awake_of (hq.status.elim .inl fun x => .inr (.inr x))) (.inl ra) (fun d _ => ?_) (fun d hrb => ?_) (fun d i g g' es q' h1 h2 hm hl gs' sl' ht => ?_)
   ·rcases hp.move (w := w.at d) hw with ⟨a', es, e, hev, r', m', hl, hp'⟩ | ⟨rfl, a', e, hfin⟩
    ·refine ⟨a', _, es, e, ?_⟩
     rw [woken_quitsD hq]
     exact own (lqP hl) (.j hp' hq hw hrel (hM.own0 hc0 hB _ _ hev) (hJ.at_ w d hJw))
    ·refine ⟨a', _, _, e, fun gs' sl' ht => ?_⟩
     rw [woken_quitsD hq] at ht
     rw [yxi] at ht ⊢
     have hP := hM.acquire hrel hc0 (y := { g := 0, fn := a.frame.fn, pos := a.frame.place, act := .mark (.acquire (wA Wg)) }) rfl rfl hB
     refine yhp.now ⟨a', fun i => if i = c then k else q i, ht.size, ht.h0, hfin, ⟨fun i g hi hg => ?_, fun j hj' => ht.above j (by have := ht.size; omega)⟩, hP, hJ.at_ w d hJw, hw⟩
     by_cases hic : i = c
     ·subst hic
      rw [if_pos rfl]
      rw [ht.hc] at hg
      cases hg
      rw [← yxi, Deaf_other T (g' := 0) (Ne.symm hc0) _ yfg, hM.deafc]
      exact hq
     ·rw [if_neg hic]
      exact ht.old i g hi (by have := (Array.getElem?_eq_some_iff.1 hg).1; have := ht.size; omega) hg
   ·obtain ⟨k', b', es, hlt, hm, e, hq'⟩ := yna hq hrb (w.at d)
    refine ⟨b', _, es, e, ?_⟩
    rw [woken_run ra]
    exact own (.right _ (.left _ _ hlt)) (.j hp hq' hw hrel (hM.tail hrel hc0 _ _ es (yhl hm) hB) (hJ.at_ w d hJw))
   ·rw [woken_run ra, woken_quitsD hq] at ht
    exact oth (w' := w.at d) hl (.j hp hq hw hrel (mt hM h1 h2 hm) (hJ.at_ w d hJw)) gs' sl' ht
end
end Go.Sim

namespace Go.Sim
open Go.Conc
open Go.ConcX (WgAt wgBlock stA smA KK rd wr mk DC0)
open Go.ConcN (sumTo upd)
structure yfs (X : Nat → Prop) (w v : World) : Prop where
 size : v.heap.size = w.heap.size
 same : ∀ b, ¬ X b → v.heap[b]? = (w.heap[b]?).map Obj.tamed
 bare : ∀ b, X b → ∃ c t, w.heap[b]? = some (.cells c t (0, 0)) ∧ v.heap[b]? = some (.cells #[] t (0, 0))
 os : v.os = w.os
 output : v.output = w.output
theorem Rel.world {X : Nat → Prop} {L : Lim} {w v : World} (h : Rel X L w v) : yfs X w v := ⟨h.size, h.same, h.bare, h.os, h.output⟩
def ybt (w : World) (n : Nat) : Nat → Question → Nat := fun i => w.tape (w.drawn + (i - n))
theorem yfs.rel {X : Nat → Prop} {w v : World} (h : yfs X w v) (n : Nat) : Rel X ⟨n, w.drawn, v.drawn, w.tape, ybt w v.drawn⟩ w (v.tp (ybt w v.drawn)) := by
 refine ⟨h.size, h.same, h.bare, h.os, h.output, fun i _ => ?_, by show w.drawn + v.drawn = v.drawn + w.drawn; omega, rfl, rfl⟩
 show ybt w v.drawn (v.drawn + i) = w.tape (w.drawn + i)
 unfold ybt
 rw [show v.drawn + i - v.drawn = i by omega]
theorem yfs.at {X : Nat → Prop} {w v : World} (h : yfs X w v) (d : Nat) : yfs X (w.at d) v := ⟨h.size, h.same, h.bare, h.os, h.output⟩
theorem yfs.setX {X : Nat → Prop} {w v : World} (h : yfs X w v) {a : Addr} (hX : X a.block) (x : Value) : yfs X (w.setCell a x) v := by
 unfold World.setCell
 refine ⟨by simp [h.size], fun b hb => ?_, fun b hb => ?_, h.os, h.output⟩
 ·have : a.block ≠ b := fun e => hb (e ▸ hX)
  simp only [Array.getElem?_modify, this, if_false]
  exact h.same b hb
 ·obtain ⟨c, t, hw, hv⟩ := h.bare b hb
  simp only [Array.getElem?_modify]
  by_cases e : a.block = b
  ·exact ⟨if a.spot.isSome then c else c.setIfInBounds a.off x, t, by simp only [e, if_true, hw, Option.map_some], hv⟩
  ·exact ⟨c, t, by simp only [e, if_false]; exact hw, hv⟩
section
variable (P Q : Program) (Stop : Frame → World → Prop) (X : Nat → Prop) (ty Wg c : Nat) (Shun : Loc → Prop) (Fin Anch : Goroutine → Prop) (cP cQ : Frame) (sP rest : List Frame)
def CS (x0 : Nat × Nat) (x1 : Nat) (x2 : Goroutine) (x3 : World) : Prop :=
 ∀ C : Nat × Nat → Nat → Goroutine → World → Prop,
  (∀ a w r d m, PA P ty Wg Fin Anch r d m a → WgAt ty Wg w KK 0 → C (r + 3, m) d a w) →
  (∀ a w r m, PB P ty Wg Fin r m a → WgAt ty Wg w (KK + 1) 0 → C (r, m) 1 a w) →
  C x0 x1 x2 x3
variable {P ty Wg Fin Anch}
theorem CS.a {a w r d m} (h0 : PA P ty Wg Fin Anch r d m a) (h1 : WgAt ty Wg w KK 0) : CS P ty Wg Fin Anch (r + 3, m) d a w := fun _ k0 k1 => k0 _ _ _ _ _ h0 h1
theorem CS.b {a w r m} (h0 : PB P ty Wg Fin r m a) (h1 : WgAt ty Wg w (KK + 1) 0) : CS P ty Wg Fin Anch (r, m) 1 a w := fun _ k0 k1 => k1 _ _ _ _ h0 h1
theorem CS.cs {motive : ∀ (x0 : Nat × Nat) (x1 : Nat) (x2 : Goroutine) (x3 : World), CS P ty Wg Fin Anch x0 x1 x2 x3 → Prop}
  (a : ∀ {a w r d m} (h0 : PA P ty Wg Fin Anch r d m a) (h1 : WgAt ty Wg w KK 0), motive (r + 3, m) d a w (CS.a  h0 h1))
  (b : ∀ {a w r m} (h0 : PB P ty Wg Fin r m a) (h1 : WgAt ty Wg w (KK + 1) 0), motive (r, m) 1 a w (CS.b  h0 h1))
  {x0 : Nat × Nat} {x1 : Nat} {x2 : Goroutine} {x3 : World} (h : CS P ty Wg Fin Anch x0 x1 x2 x3) : motive x0 x1 x2 x3 h :=
 h (fun x0 x1 x2 x3 => ∀ h : CS P ty Wg Fin Anch x0 x1 x2 x3, motive x0 x1 x2 x3 h) (fun _ _ _ _ _ h0 h1 _ => a h0 h1) (fun _ _ _ _ h0 h1 _ => b h0 h1) h
variable (P ty Wg Fin Anch)
def Worked (C : Sta → Prop) (J : World → Prop) (gs : Array Goroutine) (w : World) (T : Trace) : Prop :=
 ∃ (x : Value) (v : World) (a : Goroutine) (q : Nat → Nat) (μ : Nat × Nat) (d0 : Nat), Two P c gs a (gor (cP.finish x) sP) T q ∧ yip Q Stop ⟨cQ.finish x, rest, v⟩ ∧ C ⟨cQ.finish x, rest, v⟩ ∧ Sta.Ok Q ⟨cQ.finish x, rest, v⟩ ∧ yfs X w v ∧ J w ∧ CS P ty Wg Fin Anch μ d0 a w ∧ Mid Shun w.heap.size Wg c d0 0 none T
end
section
variable {P Q : Program} {Stop : Frame → World → Prop} {X : Nat → Prop} {ty Wg c : Nat} {Shun : Loc → Prop} {Fin Anch : Goroutine → Prop} {ok : Op → Bool} {Rr Z D E : Nat → Prop} {cP cQ : Frame} {sP rest : List Frame}
theorem CS.at {μ : Nat × Nat} {d0 : Nat} {a : Goroutine} {w : World} (h : CS P ty Wg Fin Anch μ d0 a w) (d : Nat) : CS P ty Wg Fin Anch μ d0 a (w.at d) := by
 cases h using CS.cs with
 |a h hw => exact .a h hw
 |b h hw => exact .b h hw
theorem CS.awake {μ : Nat × Nat} {d0 : Nat} {a : Goroutine} {w : World} (hAr : ∀ g, Anch g → g.status = .running) (h : CS P ty Wg Fin Anch μ d0 a w) : awake a := by
 cases h using CS.cs with
 |a h hw => exact awake_of (.inl (h.running hAr (w := w) (.inl hw)))
 |b h hw => exact awake_of ((h.status (w := w) (.inl hw)).elim (fun x => .inl x.2) (fun x => .inr (.inl x.2.1)))
theorem CS.woken {μ : Nat × Nat} {d0 : Nat} {a g g' : Goroutine} {w w' : World} (hAr : ∀ g, Anch g → g.status = .running) (h : CS P ty Wg Fin Anch μ d0 a w) (hg : w'.heap[Wg]? = w.heap[Wg]?) : ∃ μ', CS P ty Wg Fin Anch μ' d0 (Go.Conc.woken P g g' w' a) w' := by
 cases h using CS.cs with
 |a h hw =>
  rw [woken_run (h.running hAr (w := w) (.inl hw))]
  exact ⟨_, .a h (hg.trans hw)⟩
 |b h hw =>
  have hw' : WgAt ty Wg w' (KK + 1) 0 := hg.trans hw
  obtain ⟨r', m', h'⟩ := h.woken (b := g) (b' := g') (w := w') (.inl hw')
  exact ⟨_, .b h' hw'⟩
theorem CS.move {μ : Nat × Nat} {d0 : Nat} {a : Goroutine} {w : World} (hAn : ∀ g, Anch g → ∃ m, Wk P true (Ka ty Wg) (SW1 P ty Wg Fin Anch) m g) (h : CS P ty Wg Fin Anch μ d0 a w) (hr : a.status = .running) :
  ∃ a' w' es μ', stepG P true a w = .go a' w' es ∧ (∀ e ∈ es, EvW Wg e) ∧ (w' = w ∨ ∃ x, w' = w.setCell (stA Wg) x) ∧ Lx μ' μ ∧ CS P ty Wg Fin Anch μ' (deafBehind d0 es) a' w' := by
 cases h using CS.cs with
 |@a _ _ r d m h hw =>
  obtain ⟨a', w', es, e, hev, hcase⟩ := h.moveA hAn hw
  rcases hcase with ⟨rfl, r', m', hl, h'⟩ | ⟨rfl, hd, m', h'⟩
  ·exact ⟨a', w', es, _, e, hev, .inl rfl, lxs 3 hl, .a h' hw⟩
  ·have hr0 : 0 < r := by cases h using PA.cs <;> omega
   refine ⟨a', _, es, (2, m'), e, hev, .inr ⟨_, rfl⟩, lx1 (by omega), ?_⟩
   rw [hd]
   exact .b h' (Go.ConcX.WgAt.setSt hw _)
 |@b _ _ r m h hw =>
  have hk : Kb ty Wg w := .inl hw
  have hr0 : 0 < r := (h.status hk).elim (fun x => x.1) (fun x => by rw [x.2.1] at hr; cases hr)
  obtain ⟨a', es, e, hev, hd, r', m', hl, h'⟩ := h.move0 hr0 hw hk
  refine ⟨a', w, es, _, e, hev, .inl rfl, hl, ?_⟩
  rw [hd]
  exact .b h' hw
theorem ydf {n g : Nat} {fn : FuncId} {pos : String} {es : Array Event} (hX : X Wg) (hS : ∀ l, Shun l → ∃ a, l = .cell a ∧ X a.block) (h : ∀ e ∈ es, yld X n e) :
  ∀ op ∈ MemOp.ofEvents g fn pos es, (∀ b, op.act.touch? = some b → (Shun b.loc → b.kind ≠ .plain) ∧ ¬ OfW Wg b.loc) ∧ op.act.low n ∧ op.act ≠ .mark (.release (wA Wg)) := by
 intro op hop
 obtain ⟨e, he, rfl⟩ := Go.Conc.mem_ofEvents hop
 have hf := h e he
 obtain ⟨loc, x, y⟩ := e
 cases loc with
 |cell a =>
  have hf : ¬ X a.block ∧ a.block < n := hf
  refine ⟨fun b hb => ?_, hf.2, by simp [MemAct.ofEvent]⟩
  simp only [ofEvent_cell0, MemAct.touch?, Option.some.injEq] at hb
  subst hb
  refine ⟨fun hs => ?_, fun ⟨z, hz, hzb⟩ => ?_⟩
  ·obtain ⟨z, hz, hzx⟩ := hS _ hs
   cases hz
   exact absurd hzx hf.1
  ·cases hz
   exact hf.1 (hzb ▸ hX)
 |obj r =>
  have hf : ¬ X r ∧ r < n := hf
  have no : ∀ (b : Touch), b.loc = .obj r → (Shun b.loc → b.kind ≠ .plain) ∧ ¬ OfW Wg b.loc := fun b hb => ⟨fun hs => (by obtain ⟨z, hz, _⟩ := hS _ hs; rw [hb] at hz; cases hz), fun ⟨z, hz, _⟩ => by rw [hb] at hz; cases hz⟩
  cases x <;> cases y
  all_goals refine ⟨fun b hb => ?_, hf.2, by simp [MemAct.ofEvent]⟩
  all_goals first | (cases hb; done) | (simp only [MemAct.ofEvent, MemAct.touch?, Option.some.injEq] at hb; subst hb; exact no _ rfl)
 |output =>
  refine ⟨fun b hb => ?_, trivial, by simp [MemAct.ofEvent]⟩
  simp only [MemAct.ofEvent, MemAct.touch?, Option.some.injEq] at hb
  subst hb
  exact ⟨fun hs => (by obtain ⟨z, hz, _⟩ := hS _ hs; cases hz), fun ⟨z, hz, _⟩ => by cases hz⟩
 |goroutines => exact hf.elim
 |mark mm =>
  have hf : ylx mm = true := hf
  cases mm <;> first | (cases hf; done) | exact ⟨fun b hb => (by cases hb), trivial, by simp [MemAct.ofEvent]⟩
theorem yjb {n : Nat} {es : Array Event} (h : ∀ e ∈ es, yld X n e) (d : Nat) : deafBehind d es = d := by
 refine deafBehind_still (fun e he => ?_) d
 have hf := h e he
 obtain ⟨loc, x, y⟩ := e
 constructor
 ·rintro rfl; cases hf
 ·rintro rfl; cases hf
theorem leave_both (T : yqz P Q ok Rr Z D E) {L : Lim} {m : Bool} {fr : Frame} {sQ : List Frame} {w v v' : World} {g' : Goroutine} {es : Array Event} (hf : yml Q ok E fr) (hm : fr.mode = .returning) (hR : Rel X L w v)
  (h : stepG Q true (gor fr (cQ :: sQ)) v = .go g' v' es) (hL : v'.drawn ≤ L.lim) : ∃ x w1 es', g' = gor (cQ.finish x) sQ ∧ stepG P m (gor fr (cP :: sP)) w = .go (gor (cP.finish x) sP) w1 es' ∧ Rel X L w1 v' ∧ ycq X w w1 ∧ ∀ e ∈ es', yld X w1.heap.size e := by
 have hP : stepG P m (gor fr (cP :: sP)) w = _ := yey P m w hm
 rw [yey Q true v hm] at h
 unfold unwind at h hP
 simp only [hf.defers, hm] at h hP
 cases hq : Q.funcs[fr.fn]? with
 |none => exact absurd (Array.getElem?_eq_none_iff.1 hq) (Nat.not_le.2 hf.inn)
 |some fn =>
  obtain ⟨fP, hfP, hres⟩ := T.res fr.fn fn hf.fn hq
  rw [hq] at h
  rw [hfP] at hP
  have er : results fP fr.tmps = results fn fr.tmps := by unfold results; rw [hres]
  dsimp only at h hP
  rw [er] at hP
  have hs := zej (Esc := fun _ => False) (X := X) T.tables fn fr.tmps L w v #[] hR
  have e1 := yig Q (results fn fr.tmps) v #[]
  generalize eQ : (results fn fr.tmps).runT Q v #[] = rQ at h e1
  obtain ⟨r, esQ⟩ := rQ
  dsimp only at e1 h
  rw [← e1] at hs
  obtain ⟨l, h⟩ := yoa h
  cases r with
  |ok x v1 =>
   dsimp only at h
   unfold doReturn at h
   simp only [hf.kind] at h
   cases h
   rcases hs hL with q | ⟨w1, new, e, hR1, hz, hfn⟩
   ·exact q.elim
   ·rw [Array.empty_append] at e
    rw [e] at hP
    dsimp only at hP
    unfold doReturn at hP
    simp only [hf.kind, GStep.after, Array.append_empty] at hP
    exact ⟨x, w1, seen P fr.fn new, rfl, hP, hR1, hz, yha hfn⟩
  |halt y v1 => cases y <;> cases h
theorem work (T : yqz P Q ok Rr Z D E) (hRD : ∀ f, Rr f → ¬ D f) (hZ : ∀ f, Rr f → ¬ Z f) (hX : X Wg) (hS : ∀ l, Shun l → ∃ a, l = .cell a ∧ X a.block) (hc0 : c ≠ 0)
  (hAr : ∀ g, Anch g → g.status = .running) (hAn : ∀ g, Anch g → ∃ m, Wk P true (Ka ty Wg) (SW1 P ty Wg Fin Anch) m g) {C : Sta → Prop} (hC : ∀ s τ s', C s → Nxt Q s τ s' → yip Q Stop s' → C s') {J : World → Prop} (hJg : ∀ w w', ycq X w w' → J w → J w') (hJs : ∀ w x, J w → J (w.setCell (stA Wg) x)) {s : Sta} (ht : yip Q Stop s) :
  s.Ok Q → C s → ∀ inner, s.inner = inner ++ cQ :: rest → yml Q ok E s.fr → OkCs Q ok E inner →
  ∀ (a : Goroutine) (w : World) (Tr : Trace) (gs : Array Goroutine) (q : Nat → Nat) (sl : Option (Nat × Nat)) (μ : Nat × Nat) (d0 : Nat), Two P c gs a (gor s.fr (inner ++ cP :: sP)) Tr q → yfs X w s.v → J w → CS P ty Wg Fin Anch μ d0 a w → Mid Shun w.heap.size Wg c d0 0 none Tr →
   yhp P (Worked P Q Stop X ty Wg c Shun Fin Anch cP cQ sP rest C J) gs w sl Tr := by
 induction ht using yip.ind with
 |stop hm hi h =>
  intro _ _ inner hin
  rw [hi] at hin
  exact absurd (List.append_eq_nil_iff.1 hin.symm).2 (by simp)
 |@step s nx hn htr ih =>
  intro hok hCs inner hin hfr hcs
  -- the caller's and the others' steps, in an induction of their own
  have key : ∀ (ν : Nat × (Nat × Nat)) (a : Goroutine) (w : World) (Tr : Trace) (gs : Array Goroutine) (q : Nat → Nat) (sl : Option (Nat × Nat)) (d0 : Nat), Two P c gs a (gor s.fr (inner ++ cP :: sP)) Tr q → sumTo c q = ν.1 → yfs X w s.v → J w → CS P ty Wg Fin Anch ν.2 d0 a w → Mid Shun w.heap.size Wg c d0 0 none Tr →
    yhp P (Worked P Q Stop X ty Wg c Shun Fin Anch cP cQ sP rest C J) gs w sl Tr := by
   intro ν
   induction ν using (Prod.lex Nat.lt_wfRel (Prod.lex Nat.lt_wfRel Nat.lt_wfRel)).wf.induction with
   |_ ν ihν =>
    obtain ⟨S, μ⟩ := ν
    intro a w Tr gs q sl d0 hT hSum hSm hJw hCS hM
    simp only at hSum hCS
    have rb : (gor s.fr (inner ++ cP :: sP)).status = .running := rfl
    refine ygn hT (hCS.awake hAr) (awake_of (.inl rb)) (.inr rb) (fun d hra => ?_) (fun d _ => ?_) (fun d i g g' es q' h1 h2 hm hl gs' sl' ht' => ?_)
    ·obtain ⟨a', w', es, μ', e, hev, hw', hl, hCS'⟩ := (hCS.at d).move hAn hra
     refine ⟨a', w', es, e, fun gs' sl' ht' => ?_⟩
     rw [woken_run rb] at ht'
     have hsz : w'.heap.size = w.heap.size := by
      rcases hw' with rfl | ⟨x, rfl⟩
      ·rfl
      ·simp [World.setCell]
       rfl
     have hSm' : yfs X w' s.v := by
      rcases hw' with rfl | ⟨x, rfl⟩
      ·exact hSm.at d
      ·exact (hSm.at d).setX hX x
     have hJ' : J w' := by
      rcases hw' with rfl | ⟨x, rfl⟩
      ·exact hJg w _ (.of_heap rfl) hJw
      ·exact hJs _ x (hJg w _ (.of_heap rfl) hJw)
     have hWg : Wg < w.heap.size := by
      obtain ⟨cc, tt, hh, _⟩ := hSm.bare Wg hX
      exact (Array.getElem?_eq_some_iff.1 hh).1
     refine ihν (S, μ') (.right _ hl) a' w' _ gs' q sl' _ ht' hSum hSm' hJ' hCS' ?_
     rw [hsz]
     exact hM.own0 hc0 hWg _ _ hev
    ·-- the child: as the second program's step
     have hSd := hSm.at d
     obtain ⟨⟨es, e⟩, hok'⟩ := hn (ybt (w.at d) s.v.drawn)
     have hR := hSd.rel (nx (ybt (w.at d) s.v.drawn)).v.drawn
     rw [hin, List.append_assoc] at e
     by_cases hleave : s.fr.mode = .returning ∧ inner = []
     ·obtain ⟨hm, rfl⟩ := hleave
      obtain ⟨x, w1, es', hg', hP, hR1, hz, hfine⟩ := leave_both (P := P) (m := false) (cP := cP) (sP := sP) T hfr hm hR e (Nat.le_refl _)
      refine ⟨_, w1, es', hP, fun gs' sl' ht' => ?_⟩
      have efr : (nx (ybt (w.at d) s.v.drawn)).fr = cQ.finish x := congrArg Goroutine.frame hg'
      have ein : (nx (ybt (w.at d) s.v.drawn)).inner = rest := List.append_cancel_right (congrArg Goroutine.callers hg')
      have est : nx (ybt (w.at d) s.v.drawn) = ⟨cQ.finish x, rest, (nx (ybt (w.at d) s.v.drawn)).v⟩ := by rw [← efr, ← ein]
      have hgrp : w1.heap[Wg]? = w.heap[Wg]? := hz.keep Wg hX
      obtain ⟨μ', hCS'⟩ := hCS.woken (g := gor s.fr ([] ++ cP :: sP)) (g' := gor (cP.finish x) sP) hAr hgrp
      have hdf : deafBehind 0 es' = 0 := yjb hfine 0
      have hCn := hC _ _ _ hCs (hn (ybt (w.at d) s.v.drawn)) (htr _)
      have hTn := htr (ybt (w.at d) s.v.drawn)
      rw [est] at hTn hCn hok'
      refine yhp.now ⟨x, _, _, q, μ', d0, ht', hTn, hCn, hok', hR1.world, hJg w _ ⟨hz.size, hz.keep, hz.odd⟩ hJw, hCS', ?_⟩
      exact hM.work hc0 yfg (fun op hop => (ydf hX hS hfine op hop).1) (by rw [Deaf_own, hM.deafc, hdf]) hz.size (fun op hop => (ydf (Shun := Shun) hX hS hfine op hop).2.1) (fun op hop => (ydf (Shun := Shun) hX hS hfine op hop).2.2)
     have hne : s.fr.mode = .returning → inner ≠ [] := fun h1 h2 => hleave ⟨h1, h2⟩
     rcases zez (m := false) (sP := cP :: sP) (sQ := cQ :: rest ++ [ydu]) T hfr hok.mode hcs hne hR e (Nat.le_refl _) with ⟨f, args, hr, hz, _⟩ | ⟨w', es', hR', hsz, hfine, hcase⟩ | ⟨fr', ch, hp, _, hg'⟩
     ·exact absurd hz (hZ f hr)
     ·rcases hcase with ⟨fr', inner', hf', hm', hc', hg', hP⟩ | ⟨f, args, hr, hd, _⟩
      ·refine ⟨gor fr' (inner' ++ cP :: sP), w', es', hP, fun gs' sl' ht' => ?_⟩
       have efr : (nx (ybt (w.at d) s.v.drawn)).fr = fr' := congrArg Goroutine.frame hg'
       have ein : (nx (ybt (w.at d) s.v.drawn)).inner = inner' ++ cQ :: rest := by
        have := congrArg Goroutine.callers hg'
        have : (nx (ybt (w.at d) s.v.drawn)).inner ++ [ydu] = inner' ++ (cQ :: rest ++ [ydu]) := this
        rw [← List.append_assoc] at this
        exact List.append_cancel_right this
       have hgrp : w'.heap[Wg]? = w.heap[Wg]? := hsz.keep Wg hX
       obtain ⟨μ', hCS'⟩ := hCS.woken (g := gor s.fr (inner ++ cP :: sP)) (g' := gor fr' (inner' ++ cP :: sP)) hAr hgrp
       have hdf : deafBehind 0 es' = 0 := yjb hfine 0
       refine ih (ybt (w.at d) s.v.drawn) hok' (hC _ _ _ hCs (hn _) (htr _)) inner' ein (by rw [efr]; exact hf') hc' _ w' _ gs' q sl' μ' d0 (by rw [efr]; exact ht') hR'.world (hJg w _ ⟨hsz.size, hsz.keep, hsz.odd⟩ hJw) hCS' ?_
       exact hM.work hc0 yfg (fun op hop => (ydf hX hS hfine op hop).1) (by rw [Deaf_own, hM.deafc, hdf]) hsz.size (fun op hop => (ydf (Shun := Shun) hX hS hfine op hop).2.1) (fun op hop => (ydf (Shun := Shun) hX hS hfine op hop).2.2)
      ·exact absurd hd (hRD f hr)
     ·have efr : (nx (ybt (w.at d) s.v.drawn)).fr = fr' := congrArg Goroutine.frame hg'
      rw [← efr] at hp
      rcases hok'.mode with x | x <;> (rw [x] at hp; cases hp)
    ·rw [woken_run rb] at ht'
     obtain ⟨μ', hCS'⟩ := hCS.woken (g := g) (g' := g') (w' := w.at d) hAr rfl
     refine ihν (sumTo c q', μ') (.left _ _ (by rw [← hSum]; exact hl)) _ (w.at d) _ gs' q' sl' d0 ht' rfl (hSm.at d) (hJg w _ (.of_heap rfl) hJw) hCS' ?_
     exact hM.mute (by omega) (by omega) yfg (fun op hop => (ydg (Wg := Wg) (B := w.heap.size) hm op hop).1) (fun op hop => (ydg (Wg := Wg) hm op hop).2.1) (fun op hop => (ydg (Wg := Wg) (B := w.heap.size) hm op hop).2.2)
  intro a w Tr gs q sl μ d0 hT hSm hJw hCS hM
  exact key (sumTo c q, μ) a w Tr gs q sl d0 hT rfl hSm hJw hCS hM
end
end Go.Sim
