/- The first program's walk beside leavers with the second's tr. -/
import Derived.Conc.FxEnd
import Derived.Conc.FxGenLone
import Derived.Test.YtaelaldmibgibaaGreatDoorX21

set_option linter.all false
set_option maxRecDepth 10000

namespace Go.Sim
open Go.Conc Go.RowKit Go.Conc.Lib Go.ConcX.Gen
open Go.ConcX (WgAt wgBlock stA smA KK rd wr mk DC0 AtMkS EvS ShJ shyOf okF)
section
variable {P Q : Program} {Stop : Frame → World → Prop} {Done : Array Goroutine → World → Trace → Prop} {c : Nat} {s0 : Org} {X : Nat → Prop} {I I' : Trace → Nat → Prop} {w : World} {inner cs : List Frame} {Z D : Nat → Prop}
def yfq (X : Nat → Prop) (I : Trace → Nat → Prop) : Prop := ∀ T B B' fn pos (es : Array Event), I T B → B ≤ B' → (∀ e ∈ es, yld X B' e) → I (T ++ MemOp.ofEvents 0 fn pos es) B'
theorem yuu (T : Trace) (g : Nat) (fn : FuncId) (pos : String) : T ++ MemOp.ofEvents g fn pos #[] = T := by simp [MemOp.ofEvents]
theorem yat.mono {a : Goroutine} (h : yat P Done c I' a w) (hI : ∀ T, I T w.heap.size → I' T w.heap.size) : yat P Done c I a w := fun gs sl T q h1 h2 h3 h4 => h gs sl T q h1 h2 h3 (hI T h4)
theorem yat.ctrl (hI : ydc c I) {fr fr' : Frame} {cs' : List Frame} (hst : ∀ w, stepG P true (gor fr cs) w = .go (gor fr' cs') w #[]) (h : ∀ d, yat P Done c I (gor fr' cs') (w.at d)) : yat P Done c I (gor fr cs) w := by
 refine yat.step (I' := I) hI rfl fun d => ⟨_, _, _, hst _, fun T fn pos hT => ?_, h d⟩
 rw [yuu]
 exact hT
theorem ycq.of_at {w' : World} {d : Nat} (h : ycq X (w.at d) w') : ycq X w w' := ⟨h.size, h.keep, h.odd⟩
theorem yat.op (T : yqz P Q (ydo Q) (fun _ => True) Z D yca) (hI : ydc c I) (hF : yfq X I) {bQ bP : Frame} {aQ aP : Act} {opsQ opsP : Array Oper} {i j : Nat} {restQ restP : List Nat} {kQ kP : List Item} {oQ oP : Oper}
  (h : QAt Q Stop s0 X w (bQ.at aQ (.inRegion opsQ (i :: restQ) :: kQ)) inner) (hnQ : bQ.kind = .normal) (hnP : bP.kind = .normal)
  (hoQ : opsQ[i]? = some oQ) (hgQ : oQ.guard = none) (hoP : opsP[j]? = some oP) (hgP : oP.guard = none) (hsem : execOp aP.eval oP = execOp aQ.eval oQ) (hok : ydo Q oQ.op = true) (hpl : yee oQ.op = true)
  (k : ∀ x w', ycq X w w' → QAt Q Stop s0 X w' (bQ.at (aQ.put oQ.dst x) (.inRegion opsQ restQ :: kQ)) inner → (∃ v v' a, (execOp aQ.eval oQ).run Q v = .ok a v' ∧ (a = .value x ∨ a = .skip)) → yat P Done c I (gor (bP.at (aP.put oP.dst x) (.inRegion opsP restP :: kP)) cs) w') :
  yat P Done c I (gor (bP.at aP (.inRegion opsP (j :: restP) :: kP)) cs) w := by
 refine yat.step (I' := I) hI rfl fun d => ?_
 obtain ⟨x, w', es, e, hf, hg, hq, hv⟩ := (h.at d).op T (bP := bP) (aP := aP) (restP := restP) (kP := kP) hnQ hnP hoQ hgQ hoP hgP hsem hok hpl true cs
 exact ⟨_, w', es, e, fun Tr fn pos hT => hF Tr _ _ fn pos es hT hg.size hf, k x w' hg.of_at hq hv⟩
def dsts (ops : Array Oper) (l : List Nat) (t : Nat) : Prop := ∃ i ∈ l, ∃ o, ops[i]? = some o ∧ o.dst = some t
theorem yat.region (T : yqz P Q (ydo Q) (fun _ => True) Z D yca) (hI : ydc c I) (hF : yfq X I) {bQ bP : Frame} {ops : Array Oper} {kQ kP : List Item} (hnQ : bQ.kind = .normal) (hnP : bP.kind = .normal) :
  ∀ (l : List Nat) (a : Act) (w : World), (∀ i ∈ l, ∃ o, ops[i]? = some o ∧ o.guard = none ∧ ydo Q o.op = true ∧ yee o.op = true) → QAt Q Stop s0 X w (bQ.at a (.inRegion ops l :: kQ)) inner →
  (∀ a' w', a'.tmps.size = a.tmps.size → a'.defers = a.defers → (∀ t, ¬ dsts ops l t → a'.tmps[t]? = a.tmps[t]?) → ycq X w w' → QAt Q Stop s0 X w' (bQ.at a' (.inRegion ops [] :: kQ)) inner → yat P Done c I (gor (bP.at a' (.inRegion ops [] :: kP)) cs) w') →
  yat P Done c I (gor (bP.at a (.inRegion ops l :: kP)) cs) w
 |[], a, w, _, hq, k => k a w rfl rfl (fun _ _ => rfl) (.refl X w) hq
 |i :: l, a, w, ho, hq, k => by
  obtain ⟨o, h1, h2, h3, h4⟩ := ho i (List.mem_cons_self ..)
  refine yat.op T hI hF hq hnQ hnP h1 h2 h1 h2 rfl h3 h4 fun x w1 hg hq1 _ => ?_
  refine yat.region T hI hF hnQ hnP l (a.put o.dst x) w1 (fun i hi => ho i (List.mem_cons_of_mem _ hi)) hq1 fun a' w' e1 e2 e3 e4 e5 => ?_
  refine k a' w' (e1.trans ?_) (e2.trans ?_) (fun t ht => ?_) (hg.trans e4) e5
  ·unfold Act.put; split <;> simp
  ·unfold Act.put; split <;> rfl
  ·rw [e3 t (fun ⟨j, hj, q⟩ => ht ⟨j, List.mem_cons_of_mem _ hj, q⟩)]
   unfold Act.put
   split
   ·next d hd =>
    have : d ≠ t := fun e => ht ⟨i, List.mem_cons_self .., o, h1, e ▸ hd⟩
    simp [Array.getElem?_setIfInBounds_ne this]
   ·rfl
theorem yfs.tp {v : World} {τ : Nat → Question → Nat} (h : yfs X w v) : yfs X w (v.tp τ) := ⟨h.size, h.same, h.bare, h.os, h.output⟩
/-! ### a bare row in the second's world -/
theorem same_push {v : World} (h : yfs X w v) (cells : Array Value) (t : Nat) : yfs (fun b => X b ∨ b = w.heap.size) { w with heap := w.heap.push (.cells cells t (0, 0)) } { v with heap := v.heap.push (.cells #[] t (0, 0)) } := by
 refine ⟨by simp [h.size], fun b hb => ?_, fun b hb => ?_, h.os, h.output⟩
 ·have hb1 : ¬ X b := fun x => hb (.inl x)
  have hb2 : b ≠ w.heap.size := fun x => hb (.inr x)
  show (v.heap.push _)[b]? = ((w.heap.push _)[b]?).map Obj.tamed
  rw [Array.getElem?_push, Array.getElem?_push, if_neg (by rw [h.size]; exact hb2), if_neg hb2]
  exact h.same b hb1
 ·by_cases e : b = w.heap.size
  ·subst e
   refine ⟨cells, t, by simp, ?_⟩
   show (v.heap.push _)[w.heap.size]? = _
   rw [← h.size]; simp
  ·obtain ⟨cc, tt, h1, h2⟩ := h.bare b (hb.resolve_right e)
   refine ⟨cc, tt, ?_, ?_⟩
   ·show (w.heap.push _)[b]? = _
    rw [Array.getElem?_push, if_neg e]; exact h1
   ·show (v.heap.push _)[b]? = _
    rw [Array.getElem?_push, if_neg (by rw [h.size]; exact e)]; exact h2
theorem QAt.bare {bQ : Frame} {aQ : Act} {opsQ : Array Oper} {i t : Nat} {restQ : List Nat} {kQ : List Item} {oQ : Oper} (h : QAt Q Stop s0 X w (bQ.at aQ (.inRegion opsQ (i :: restQ) :: kQ)) inner) (hnQ : bQ.kind = .normal)
  (hoQ : opsQ[i]? = some oQ) (hgQ : oQ.guard = none) (hop : oQ.op = .box t (.const (.agg #[]))) (cells : Array Value) :
  QAt Q Stop s0 (fun b => X b ∨ b = w.heap.size) { w with heap := w.heap.push (.cells cells t (0, 0)) } (bQ.at (aQ.put oQ.dst (.pointer (some ⟨w.heap.size, 0, none⟩))) (.inRegion opsQ restQ :: kQ)) inner := by
 obtain ⟨v, s', hb, hs, hK, ⟨⟨es, e⟩, hok'⟩, hb'⟩ := h.step rfl
 rw [yij _ hoQ hgQ] at e
 have er : (execOp aQ.eval oQ).runT Q (v.tp (ybt w v.drawn)) #[] = (.ok (.value (.pointer (some ⟨v.heap.size, 0, none⟩))) { v.tp (ybt w v.drawn) with heap := v.heap.push (.cells #[] t (0, 0)) }, #[]) := by
  unfold execOp
  rw [hop]
  rfl
 rw [ydi (fr := bQ.at aQ (.inRegion opsQ (i :: restQ) :: kQ)) hnQ er] at e
 simp only [GStep.go.injEq] at e
 obtain ⟨hg, hv, _⟩ := e
 obtain ⟨hf, hi⟩ := ykt hg
 have hi2 := List.append_cancel_right hi
 clear hi
 obtain ⟨f', i', v'⟩ := s'
 simp only at hf hi2 hv
 subst hf hi2 hv
 refine ⟨_, ?_, (same_push hs cells t).tp (τ := ybt w v.drawn), hK.push _⟩
 rw [Frame.finish_at, hoQ] at hb'
 rw [← hs.size]
 exact hb'
theorem QAt.leq {bQ : Frame} {aQ : Act} {opsQ : Array Oper} {i t : Nat} {restQ : List Nat} {kQ : List Item} {oQ : Oper} (h : QAt Q Stop s0 X w (bQ.at aQ (.inRegion opsQ (i :: restQ) :: kQ)) inner) (hnQ : bQ.kind = .normal)
  (hoQ : opsQ[i]? = some oQ) (hgQ : oQ.guard = none) (hop : oQ.op = .binOp .leq 3 (.tmp t) (.const (.int .i64 1)) 3) :
  ∃ n, aQ.eval (.tmp t) = .int .i64 n ∧ QAt Q Stop s0 X w (bQ.at (aQ.put oQ.dst (.bool (decide (n ≤ 1)))) (.inRegion opsQ restQ :: kQ)) inner := by
 obtain ⟨v, s', hb, hs, hK, ⟨⟨es, e⟩, hok'⟩, hb'⟩ := h.step rfl
 rw [yij _ hoQ hgQ] at e
 have hex : execOp aQ.eval oQ = (do pure (.value (← (do eqGuard .leq 3 (.tmp t) (.const (.int .i64 1)) (aQ.eval (.tmp t)) (.int .i64 1); binOp .leq 3 (aQ.eval (.tmp t)) (.int .i64 1))))) := by
  unfold execOp
  rw [hop]
  rfl
 rw [hex] at e
 generalize aQ.eval (.tmp t) = x at e
 have no : ∀ (y : Halt) (s : Sem Next), ykf y = true → s = .halt y → stepG.apply Q true (bQ.at aQ (.inRegion opsQ (i :: restQ) :: kQ)) (inner ++ [ydu]) none s (v.tp (ybt w v.drawn)) ≠ .go (gor s'.fr (s'.inner ++ [ydu])) s'.v es := by
  intro y s hy hs e
  subst hs
  obtain ⟨o, u, l, e1⟩ := ymm (p := Q) (s := .halt y) (w := v.tp (ybt w v.drawn)) (fr := bQ.at aQ (.inRegion opsQ (i :: restQ) :: kQ)) (cs := inner ++ [ydu]) hy rfl
  rw [e1] at e
  cases e
 cases x with
 |int k n =>
  by_cases hk : k = .i64
  ·subst hk
   refine ⟨n, rfl, ?_⟩
   have er : (do pure (.value (← (do eqGuard .leq 3 (.tmp t) (.const (.int .i64 1)) (.int .i64 n) (.int .i64 1); binOp .leq 3 (.int .i64 n) (.int .i64 1)))) : Sem Next).runT Q (v.tp (ybt w v.drawn)) #[] = (.ok (.value (.bool (decide (n ≤ 1)))) (v.tp (ybt w v.drawn)), #[]) := rfl
   rw [ydi (fr := bQ.at aQ (.inRegion opsQ (i :: restQ) :: kQ)) hnQ er] at e
   simp only [GStep.go.injEq] at e
   obtain ⟨hg, hv, _⟩ := e
   obtain ⟨hf, hi⟩ := ykt hg
   have hi2 := List.append_cancel_right hi
   clear hi
   obtain ⟨f', i', v'⟩ := s'
   simp only at hf hi2 hv
   subst hf hi2 hv
   refine ⟨_, ?_, hs.tp (τ := ybt w v.drawn), hK⟩
   rw [Frame.finish_at, hoQ] at hb'
   exact hb'
  ·exfalso
   refine no (.stuck "BinOp: operands of different kinds") _ rfl ?_ e
   simp only [binOp, ne_eq, hk, not_false_eq_true, if_true]
   rfl
 |pointer p => cases p <;> exact absurd e (no (.unsupported .addressObserved) _ rfl rfl)
 |_ => exact absurd e (no (.stuck "BinOp: no such operator on these operands") _ rfl rfl)
theorem lss_val {ρ : Operand → Value} {o : Oper} {x y : Operand} {n : Int} (hop : o.op = .binOp .lss 3 x y 3) (hx : ρ x = .int .i64 0) (hy : ρ y = .int .i64 n) {v v' : World} {a : Next} {z : Value} (h : (execOp ρ o).run Q v = .ok a v') (hz : a = .value z ∨ a = .skip) : z = .bool (decide (0 < n)) := by
 have er : (execOp ρ o).run Q v = .ok (.value (.bool (decide (0 < n)))) v := by
  unfold execOp
  rw [hop]
  dsimp only
  rw [hx, hy]
  rfl
 rw [er] at h
 cases h
 rcases hz with q | q
 ·cases q; rfl
 ·cases q
theorem yog {ρ : Operand → Value} {o : Oper} {x : Operand} (hop : o.op = .move x) {v v' : World} {a : Next} {z : Value} (h : (execOp ρ o).run Q v = .ok a v') (hz : a = .value z ∨ a = .skip) : z = ρ x := by
 have er : (execOp ρ o).run Q v = .ok (.value (ρ x)) v := by
  unfold execOp
  rw [hop]
  rfl
 rw [er] at h
 cases h
 rcases hz with q | q
 ·cases q; rfl
 ·cases q
theorem yxa {ρ : Operand → Value} {o : Oper} {f : Nat} {cap : Array Operand} (hop : o.op = .makeFunc (.func f) #[] cap) {v v' : World} {a : Next} {z : Value} (h : (execOp ρ o).run Q v = .ok a v') (hz : a = .value z ∨ a = .skip) : z = .func (.func f) #[] (cap.map ρ) := by
 have er : (execOp ρ o).run Q v = .ok (.value (.func (.func f) #[] (cap.map ρ))) v := by
  unfold execOp
  rw [hop]
  simp only [Array.map_empty]
  rfl
 rw [er] at h
 cases h
 rcases hz with q | q
 ·cases q; rfl
 ·cases q
/-! ### stretches of the kit's kind -/
theorem yat.goes {E : Event → Prop} {J : Trace → Prop} (hJ : ydc c (fun T _ => J T)) (hE : ∀ T fn pos (es : Array Event), J T → (∀ e ∈ es, E e) → J (T ++ MemOp.ofEvents 0 fn pos es)) {S : Goroutine → World → Prop} (hS : ∀ a w, (∀ d, S a (w.at d)) → yat P Done c (fun T _ => J T) a w) :
  ∀ (n : Nat) (a : Goroutine) (w : World), Goes P true AtRel (DE E) S n a w → yat P Done c (fun T _ => J T) a w
 |0, a, w, h => hS a w (fun d => h (w.at d) ⟨d, rfl⟩)
 |n + 1, a, w, h => by
  rcases h with h | ⟨hr, h⟩
  ·exact hS a w (fun d => h (w.at d) ⟨d, rfl⟩)
  ·refine yat.step (I' := fun T _ => J T) hJ hr fun d => ?_
   have hs := h (w.at d) ⟨d, rfl⟩
   cases hgo : stepG P true a (w.at d) with
   |go a' w' es =>
    rw [hgo, goes_go] at hs
    exact ⟨a', w', es, rfl, fun T fn pos hT => hE T fn pos es hT hs.1, yat.goes hJ hE hS n a' w' hs.2⟩
   |_ => rw [hgo] at hs; exact hs.elim
theorem yat.addPos {L : WgLink} (H : WgLib P L) {Wg : Nat} {Shun : Loc → Prop} (hc : 0 < c) (hWS : ∀ a : Addr, a.block = Wg → ¬ Shun (.cell a)) (hw : WgAt L.tWg Wg w 0 0) {b₀ : Frame} {a₀ : Act} {ops₀ : Array Oper} {i₀ : Nat} {rest₀ : List Nat} {k₀ : List Item} {cs : List Frame}
  (h : ∀ d, yat P Done c (fun T B => Pre Shun B Wg 0 T) (G (b₀.at (a₀.put ((ops₀[i₀]?).bind (·.dst)) (.tuple #[])) (.inRegion ops₀ rest₀ :: k₀)) cs) ((w.setCell (stA Wg) (.int .u64 KK)).at d)) :
  yat P Done c (fun T B => Pre Shun B Wg 0 T) (G ((base L.add).at ⟨(List.toArray (.pointer (some ⟨Wg, 0, none⟩) :: .int .i64 1 :: List.replicate 115 undef)), []⟩ [.code (body_add L)]) (b₀.at a₀ (.inRegion ops₀ (i₀ :: rest₀) :: k₀) :: cs)) w := by
 simp only [List.replicate]
 have hlt : Wg < w.heap.size := (Array.getElem?_eq_some_iff.1 hw).1
 let B := w.heap.size
 letI : Go.ConcX.Shy Wg Wg := shyOf Shun B Wg Wg (fun _ _ => True) hlt hlt hWS
 have hev : ∀ e, EvS Wg Wg e → (∀ x, (MemAct.ofEvent e).touch? = some x → (Shun x.loc → x.kind ≠ .plain) ∧ (OfW Wg x.loc → x.kind ≠ .plain)) ∧ (MemAct.ofEvent e).low B ∧ MemAct.ofEvent e ≠ .mark (.release (wA Wg)) ∧ e.loc ≠ .mark .disable ∧ e.loc ≠ .mark .enable := by
  intro e he
  have hok : okF Shun B Wg (MemAct.ofEvent e) := he.2.2.2.2.2
  refine ⟨fun x hx => ⟨(hok.1 x hx).1, fun ⟨a, ha, hb⟩ => (he.1 x hx).1 (.inl ⟨a, ha, hb⟩)⟩, hok.2.1, he.2.1, fun q => he.2.2.2.1 (ydn q), fun q => he.2.2.2.2.1 (ydn q)⟩
 have keep : ∀ (d0 : Nat) (T : Trace) fn pos (es : Array Event), Pre Shun B Wg d0 T → (∀ e ∈ es, EvS Wg Wg e) → Pre Shun B Wg d0 (T ++ MemOp.ofEvents 0 fn pos es) := by
  intro d0 T fn pos es h1 he
  refine h1.app0 yfg (fun op hop b hb => ?_) ?_ (fun op hop => ?_) (fun op hop => ?_)
  ·obtain ⟨e, hee, rfl⟩ := Go.Conc.mem_ofEvents hop; exact (hev e (he e hee)).1 b hb
  ·rw [Deaf_own, h1.deaf0, deafBehind_still (fun e hee => (hev e (he e hee)).2.2.2)]
  ·obtain ⟨e, hee, rfl⟩ := Go.Conc.mem_ofEvents hop; exact (hev e (he e hee)).2.1
  ·obtain ⟨e, hee, rfl⟩ := Go.Conc.mem_ofEvents hop; exact (hev e (he e hee)).2.2.1
 have mt : ∀ d0, ydc c (fun T _ => Pre Shun B Wg d0 T) := fun d0 T _ i fn pos es h1 h2 h3 h4 => (yva (Shun := Shun) (Wg := Wg) (d0 := d0)) T B i fn pos es h1 h2 h3 h4
 have mark : ∀ (d0 : Nat) (m : Mark) (T : Trace) fn pos, (m = .disable ∨ m = .enable) → Pre Shun B Wg d0 T → Pre Shun B Wg (deafBehind d0 #[mk m]) (T ++ MemOp.ofEvents 0 fn pos #[mk m]) := by
  intro d0 m T fn pos hm h1
  refine h1.app0 yfg ?_ (by rw [Deaf_own, h1.deaf0]) ?_ ?_
  all_goals
   intro op hop
   rw [yxi] at hop
   obtain rfl := List.mem_singleton.1 (Array.mem_toList_iff.2 hop)
   rcases hm with rfl | rfl
   all_goals first | (intro b hb; cases hb; done) | trivial | (simp; done)
 let w1 := w.setCell (stA Wg) (.int .u64 KK)
 have e1 : w1.heap.size = B := by simp [w1, World.setCell, B]
 let g1 := G (b₀.at (a₀.put ((ops₀[i₀]?).bind (·.dst)) (.tuple #[])) (.inRegion ops₀ rest₀ :: k₀)) cs
 let SG : Goroutine → World → Prop := fun a w' => a = g1 ∧ ∃ d, w' = w1.at d
 have hA := Go.ConcX.Gen.addPos (Wg := Wg) (C := Wg) (StopG := SG) (mT := 0) (b₀ := b₀) (a₀ := a₀) (ops₀ := ops₀) (i₀ := i₀) (rest₀ := rest₀) (k₀ := k₀) (cs := cs) H w hw (fun w' ⟨d, hd⟩ => ⟨rfl, d, hd⟩)
 have last : ∀ n a w', Goes P true AtRel (DE (EvS Wg Wg)) SG n a w' → yat P Done c (fun T _ => Pre Shun B Wg 0 T) a w' := by
  refine yat.goes (mt 0) (fun T fn pos es => keep 0 T fn pos es) fun a w' hs => ?_
  obtain ⟨rfl, d, hd⟩ := hs w'.drawn
  have : w' = w1.at d := hd
  subst this
  exact (h d).mono (fun T hT => by
   have : ((w1.at d).heap.size) = B := e1
   rw [this]; exact hT)
 have mid : ∀ n a w', Goes P true AtRel (DE (EvS Wg Wg)) (AtMkS P .enable fun a w => ∃ n, Goes P true AtRel (DE (EvS Wg Wg)) SG n a w) n a w' → yat P Done c (fun T _ => Pre Shun B Wg 1 T) a w' := by
  refine yat.goes (mt 1) (fun T fn pos es => keep 1 T fn pos es) fun a w' hs => ?_
  refine yat.step (I' := fun T _ => Pre Shun B Wg 0 T) (mt 1) (hs 0).1 fun d => ?_
  obtain ⟨_, a', ha, n, hn⟩ := hs d
  exact ⟨a', _, _, ha, fun T fn pos hT => mark 1 .enable T fn pos (.inr rfl) hT, last n a' _ hn⟩
 have first : ∀ n a w', Goes P true AtRel (DE (EvS Wg Wg)) (AtMkS P .disable fun a w => ∃ n, Goes P true AtRel (DE (EvS Wg Wg)) (AtMkS P .enable fun a w => ∃ n, Goes P true AtRel (DE (EvS Wg Wg)) SG n a w) n a w) n a w' → yat P Done c (fun T _ => Pre Shun B Wg 0 T) a w' := by
  refine yat.goes (mt 0) (fun T fn pos es => keep 0 T fn pos es) fun a w' hs => ?_
  refine yat.step (I' := fun T _ => Pre Shun B Wg 1 T) (mt 0) (hs 0).1 fun d => ?_
  obtain ⟨_, a', ha, n, hn⟩ := hs d
  exact ⟨a', _, _, ha, fun T fn pos hT => mark 0 .disable T fn pos (.inl rfl) hT, mid n a' _ hn⟩
 exact (first 12 _ w hA).mono (fun T hT => hT)
end
end Go.Sim

namespace Go.Sim
open Go.Conc Go.RowKit Go.Conc.Lib
structure PL where
 L : WgLink
 fPulls : Nat
 fBody : Nat
 fGo : Nat
 fGo1 : Nat
 fGo11 : Nat
 tN : Nat
 tS : Nat
 tPs : Nat
 tPair : Nat
 tF : Nat
 tE : Nat
def pR0 (A : PL) : Array Oper := #[⟨some 2, .box A.tN (.tmp 0), 0, "round.go:41", #[], none⟩, ⟨some 4, .assign (.const (.slice none 0 0)), A.tPs, "round.go:41", #[], none⟩]
def pR1 (A : PL) : Array Oper := #[⟨some 9, .move (.tmp 1), A.tS, "round.go:42", #[], none⟩, ⟨some 10, .call ⟨.builtin .len, #[.tmp 9], #[A.tS]⟩, 3, "round.go:42", #[⟨0, .data⟩], none⟩, ⟨some 11, .makeSlice A.tPs (.tmp 10) (.tmp 10), A.tPs, "round.go:42", #[⟨1, .data⟩, ⟨1, .data⟩], none⟩, ⟨some 5, .alloc A.tPs, 0, "round.go:42", #[], none⟩, ⟨none, .store A.tPs (.tmp 5) (.tmp 11), 0, "round.go:42", #[⟨3, .data⟩, ⟨2, .data⟩, ⟨0, .phase⟩, ⟨1, .phase⟩, ⟨2, .phase⟩, ⟨3, .phase⟩], none⟩]
def pR2 (A : PL) : Array Oper := #[⟨some 6, .alloc A.L.tWg, 0, "round.go:43", #[], none⟩]
def pR3 (A : PL) : Array Oper := #[⟨some 12, .move (.tmp 1), A.tS, "round.go:44", #[], none⟩, ⟨some 13, .call ⟨.builtin .len, #[.tmp 12], #[A.tS]⟩, 3, "round.go:44", #[⟨0, .data⟩], none⟩, ⟨some 14, .move (.const (.int .i64 0)), 3, "round.go:44", #[], none⟩]
def pR4 (A : PL) : Array Oper := #[⟨some 15, .binOp .lss 3 (.tmp 14) (.tmp 13) 3, 0, "round.go:44", #[], none⟩]
def pR5 (A : PL) : Array Oper := #[⟨some 16, .move (.tmp 14), 3, "round.go:44", #[], none⟩, ⟨some 17, .indexAddr A.tS (.tmp 12) (.tmp 14), 0, "round.go:44", #[], none⟩, ⟨some 18, .load A.tPair (.tmp 17), A.tPair, "round.go:44", #[⟨1, .data⟩], none⟩, ⟨some 7, .alloc 3, 0, "round.go:44", #[], none⟩, ⟨some 8, .alloc A.tPair, 0, "round.go:44", #[], none⟩, ⟨none, .store 3 (.tmp 7) (.tmp 16), 0, "round.go:44", #[⟨3, .data⟩, ⟨0, .data⟩, ⟨0, .phase⟩, ⟨1, .phase⟩, ⟨2, .phase⟩, ⟨3, .phase⟩, ⟨4, .phase⟩], none⟩, ⟨none, .store A.tPair (.tmp 8) (.tmp 18), 0, "round.go:44", #[⟨4, .data⟩, ⟨2, .data⟩, ⟨5, .chain⟩, ⟨0, .phase⟩, ⟨1, .phase⟩, ⟨2, .phase⟩, ⟨3, .phase⟩, ⟨4, .phase⟩, ⟨5, .phase⟩], none⟩]
def pR6 (A : PL) : Array Oper := #[⟨some 19, .makeFunc (.func A.fBody) #[] #[.tmp 2, .tmp 8, .tmp 5, .tmp 7], A.tF, "round.go:45", #[], none⟩, ⟨some 20, .call ⟨.value (.func A.fGo), #[.tmp 6, .tmp 19], #[A.L.tWg, A.tF]⟩, 0, "round.go:45", #[⟨0, .data⟩], none⟩]
def pR7 (A : PL) : Array Oper := #[⟨some 21, .binOp .add 3 (.tmp 14) (.const (.int .i64 1)) 3, 3, "round.go:44", #[], none⟩, ⟨some 14, .move (.tmp 21), 3, "round.go:44", #[⟨0, .data⟩], none⟩]
def pR8 (A : PL) : Array Oper := #[⟨some 22, .call ⟨.value (.func A.L.wait), #[.tmp 6], #[A.L.tWg]⟩, 0, "round.go:50", #[], none⟩]
def pR9 (A : PL) : Array Oper := #[⟨some 23, .load A.tPs (.tmp 5), A.tPs, "round.go:51", #[], none⟩, ⟨some 4, .assign (.tmp 23), A.tPs, "round.go:51", #[⟨0, .data⟩, ⟨0, .phase⟩], none⟩]
def gR0 (A : PL) : Array Oper := #[⟨some 2, .box A.L.tWgP (.tmp 0), 0, "waitgroup.go:236", #[], none⟩, ⟨some 3, .box A.tF (.tmp 1), 0, "waitgroup.go:236", #[], none⟩]
def gR1 (A : PL) : Array Oper := #[⟨some 4, .load A.L.tWgP (.tmp 2), A.L.tWgP, "waitgroup.go:237", #[], none⟩, ⟨some 5, .call ⟨.value (.func A.L.add), #[.tmp 4, .const (.int .i64 1)], #[A.L.tWgP, 3]⟩, 0, "waitgroup.go:237", #[⟨0, .data⟩], none⟩]
def gR2 (A : PL) : Array Oper := #[⟨some 6, .makeFunc (.func A.fGo1) #[] #[.tmp 2, .tmp 3], A.tF, "waitgroup.go:238", #[], none⟩, ⟨none, .go ⟨.value (.tmp 6), #[], #[]⟩, 0, "waitgroup.go:238", #[⟨0, .data⟩], none⟩]
def hR0 (A : PL) : Array Oper := #[⟨some 2, .makeFunc (.func A.fGo11) #[] #[.tmp 0], A.tF, "waitgroup.go:239", #[], none⟩, ⟨none, .defer ⟨.value (.tmp 2), #[], #[]⟩, 0, "waitgroup.go:239", #[⟨0, .data⟩], none⟩]
def hR1 (A : PL) : Array Oper := #[⟨some 3, .load A.tF (.tmp 1), A.tF, "waitgroup.go:258", #[], none⟩, ⟨some 4, .call ⟨.value (.tmp 3), #[], #[]⟩, 0, "waitgroup.go:258", #[⟨0, .data⟩], none⟩]
def kR0 (A : PL) : Array Oper := #[⟨some 2, .call ⟨.builtin .recover, #[], #[]⟩, A.tE, "waitgroup.go:240", #[], none⟩, ⟨some 1, .assign (.tmp 2), A.tE, "waitgroup.go:240", #[⟨0, .data⟩, ⟨0, .chain⟩, ⟨0, .phase⟩], none⟩]
def kR1 (A : PL) : Array Oper := #[⟨some 3, .move (.tmp 1), A.tE, "waitgroup.go:240", #[], none⟩, ⟨some 4, .binOp .neq A.tE (.tmp 3) (.const .nilIface) A.tE, 4, "waitgroup.go:240", #[⟨0, .data⟩], none⟩]
def kR2 (A : PL) : Array Oper := #[⟨some 5, .move (.tmp 1), A.tE, "waitgroup.go:251", #[], none⟩, ⟨none, .panic (.tmp 5), 0, "waitgroup.go:251", #[⟨0, .data⟩], none⟩]
def kR3 (A : PL) : Array Oper := #[⟨some 6, .load A.L.tWgP (.tmp 0), A.L.tWgP, "waitgroup.go:256", #[], none⟩, ⟨some 7, .call ⟨.value (.func A.L.done), #[.tmp 6], #[A.L.tWgP]⟩, 0, "waitgroup.go:256", #[⟨0, .data⟩], none⟩]
def pLoop (A : PL) : Code := ((Code.region 4 (pR4 A) false).seq ((Code.cond (Operand.tmp 15) Code.skip (Code.exit 0)).seq ((Code.block 1 ((Code.region 5 (pR5 A) false).seq (Code.region 6 (pR6 A) false))).seq (Code.region 7 (pR7 A) false))))
def ypv (A : PL) : Code := ((Code.region 0 (pR0 A) false).seq ((Code.region 1 (pR1 A) false).seq ((Code.region 2 (pR2 A) false).seq (((Code.region 3 (pR3 A) false).seq (Code.block 0 (pLoop A).loop)).seq ((Code.region 8 (pR8 A) false).seq ((Code.region 9 (pR9 A) false).seq Code.ret))))))
def ypw (A : PL) : Func := { name := "(*reunion/reunion.Net).pullsOf", origin := "", params := #[A.tN, A.tS], resultTypes := #[A.tPs], nfree := 0, ntmps := 24, results := #[ResultVar.tmp 4], body := some (ypv A), norace := false, file := "reunion/reunion/round.go", endLine := 52, tmpNames := #["t", "pairs", "t", "pairs", "", "pulls", "all", "i", "pair", "", "", "", "", "", "", "", "", "", "", "", "", "", "", ""] }
def goCode (A : PL) : Code := ((Code.region 0 (gR0 A) false).seq ((Code.region 1 (gR1 A) false).seq (Code.region 2 (gR2 A) false)))
def goFn (A : PL) : Func := { name := "(*sync.WaitGroup).Go", origin := "", params := #[A.L.tWgP, A.tF], resultTypes := #[], nfree := 0, ntmps := 7, results := #[], body := some (goCode A), norace := true, ours := true, file := "sync/waitgroup.go", endLine := 260, tmpNames := #["wg", "f", "wg", "f", "", "", ""] }
def go1Code (A : PL) : Code := ((Code.region 0 (hR0 A) false).seq (Code.region 1 (hR1 A) false))
def go1Fn (A : PL) : Func := { name := "(*sync.WaitGroup).Go$1", origin := "", params := #[], resultTypes := #[], nfree := 2, ntmps := 5, results := #[], body := some (go1Code A), norace := true, ours := true, file := "sync/waitgroup.go", endLine := 259, litNo := some 1, tmpNames := #["", "", "", "", ""] }
def go11Code (A : PL) : Code := (((Code.region 0 (kR0 A) false).seq ((Code.region 1 (kR1 A) false).seq (Code.cond (Operand.tmp 4) (Code.region 2 (kR2 A) false) Code.skip))).seq (Code.region 3 (kR3 A) false))
def go11Fn (A : PL) : Func := { name := "(*sync.WaitGroup).Go$1$1", origin := "", params := #[], resultTypes := #[], nfree := 1, ntmps := 8, results := #[], body := some (go11Code A), norace := true, ours := true, file := "sync/waitgroup.go", endLine := 257, tmpNames := #["", "x", "", "", "", "", "", ""] }
/-! ### the twin's -/
def qR2 (A : PL) : Array Oper := #[⟨some 6, .box A.L.tWg (.const (.agg #[])), 0, "", #[], none⟩]
def qRa (A : PL) : Array Oper := #[⟨some 15, .binOp .leq 3 (.tmp 13) (.const (.int .i64 1)) 3, 0, "", #[], none⟩]
def qR6 (A : PL) : Array Oper := #[⟨some 19, .makeFunc (.func A.fBody) #[] #[.tmp 2, .tmp 8, .tmp 5, .tmp 7], A.tF, "", #[], none⟩, ⟨some 20, .box A.L.tWgP (.const (.agg #[])), 0, "", #[], none⟩, ⟨some 21, .box A.tF (.const (.agg #[])), 0, "", #[], none⟩, ⟨some 22, .call ⟨.value (.func A.fBody), #[.tmp 2, .tmp 8, .tmp 5, .tmp 7], #[0, 0, 0, 0]⟩, 0, "", #[], none⟩]
def ygq (A : PL) : Code := (Code.region 0 (pR0 A) false).seq ((Code.region 1 (pR1 A) false).seq ((Code.region 2 (qR2 A) false).seq ((Code.region 3 (pR3 A) false).seq ((Code.region 10 (qRa A) false).seq ((Code.cond (Operand.tmp 15) Code.skip (Code.refuse "twin")).seq ((Code.region 4 (pR4 A) false).seq ((Code.cond (Operand.tmp 15) Code.skip (Code.refuse "twin")).seq ((Code.region 5 (pR5 A) false).seq ((Code.region 6 (qR6 A) false).seq ((Code.region 9 (pR9 A) false).seq Code.ret))))))))))
def ytf (A : PL) : Func := { ypw A with body := some (ygq A) }
def deadFn (fn : Func) : Func := { fn with name := "twin", body := some (.refuse "twin") }
def PL.gone (A : PL) (f : Nat) : Bool := f == A.fGo || f == A.L.wait || f == A.L.add || f == A.L.done || f == A.fGo1 || f == A.fGo11
def yvx (fn : Func) : Bool := (fn.name == "internal/bytealg.MakeNoZero" || (fn.name == "internal/abi.NoEscape" || (fn.name == "internal/bytealg.IndexByteString" || (fn.name == "internal/bytealg.IndexString" || fn.name == "internal/bytealg.CountString")))) && fn.origin == ""
def yis (A : PL) (i : Nat) (fn : Func) : Func := if i = A.fPulls then ytf A else if A.gone i || (fn.body.isNone && !yvx fn) then deadFn fn else fn
def twin (P : Program) (A : PL) : Program := { P with funcs := P.funcs.mapIdx (yis A) }
/-! ### single operations -/
def pR3_0 (A : PL) : Oper := ⟨some 12, .move (.tmp 1), A.tS, "round.go:44", #[], none⟩
theorem pR3_0_at (A : PL) : (pR3 A)[0]? = some (pR3_0 A) := rfl
def pR3_1 (A : PL) : Oper := ⟨some 13, .call ⟨.builtin .len, #[.tmp 12], #[A.tS]⟩, 3, "round.go:44", #[⟨0, .data⟩], none⟩
theorem pR3_1_at (A : PL) : (pR3 A)[1]? = some (pR3_1 A) := rfl
def pR3_2 (A : PL) : Oper := ⟨some 14, .move (.const (.int .i64 0)), 3, "round.go:44", #[], none⟩
theorem pR3_2_at (A : PL) : (pR3 A)[2]? = some (pR3_2 A) := rfl
def pR4_0 (A : PL) : Oper := ⟨some 15, .binOp .lss 3 (.tmp 14) (.tmp 13) 3, 0, "round.go:44", #[], none⟩
theorem yuv (A : PL) : (pR4 A)[0]? = some (pR4_0 A) := rfl
def qRa_0 (A : PL) : Oper := ⟨some 15, .binOp .leq 3 (.tmp 13) (.const (.int .i64 1)) 3, 0, "", #[], none⟩
theorem qRa_0_at (A : PL) : (qRa A)[0]? = some (qRa_0 A) := rfl
def pR6_0 (A : PL) : Oper := ⟨some 19, .makeFunc (.func A.fBody) #[] #[.tmp 2, .tmp 8, .tmp 5, .tmp 7], A.tF, "round.go:45", #[], none⟩
theorem pR6_0_at (A : PL) : (pR6 A)[0]? = some (pR6_0 A) := rfl
def pR6_1 (A : PL) : Oper := ⟨some 20, .call ⟨.value (.func A.fGo), #[.tmp 6, .tmp 19], #[A.L.tWg, A.tF]⟩, 0, "round.go:45", #[⟨0, .data⟩], none⟩
theorem pR6_1_at (A : PL) : (pR6 A)[1]? = some (pR6_1 A) := rfl
def qR6_0 (A : PL) : Oper := ⟨some 19, .makeFunc (.func A.fBody) #[] #[.tmp 2, .tmp 8, .tmp 5, .tmp 7], A.tF, "", #[], none⟩
theorem qR6_0_at (A : PL) : (qR6 A)[0]? = some (qR6_0 A) := rfl
def qR6_1 (A : PL) : Oper := ⟨some 20, .box A.L.tWgP (.const (.agg #[])), 0, "", #[], none⟩
theorem qR6_1_at (A : PL) : (qR6 A)[1]? = some (qR6_1 A) := rfl
def qR6_2 (A : PL) : Oper := ⟨some 21, .box A.tF (.const (.agg #[])), 0, "", #[], none⟩
theorem qR6_2_at (A : PL) : (qR6 A)[2]? = some (qR6_2 A) := rfl
def qR6_3 (A : PL) : Oper := ⟨some 22, .call ⟨.value (.func A.fBody), #[.tmp 2, .tmp 8, .tmp 5, .tmp 7], #[0, 0, 0, 0]⟩, 0, "", #[], none⟩
theorem qR6_3_at (A : PL) : (qR6 A)[3]? = some (qR6_3 A) := rfl
def gR0_0 (A : PL) : Oper := ⟨some 2, .box A.L.tWgP (.tmp 0), 0, "waitgroup.go:236", #[], none⟩
theorem gR0_0_at (A : PL) : (gR0 A)[0]? = some (gR0_0 A) := rfl
def gR0_1 (A : PL) : Oper := ⟨some 3, .box A.tF (.tmp 1), 0, "waitgroup.go:236", #[], none⟩
theorem gR0_1_at (A : PL) : (gR0 A)[1]? = some (gR0_1 A) := rfl
def gR1_0 (A : PL) : Oper := ⟨some 4, .load A.L.tWgP (.tmp 2), A.L.tWgP, "waitgroup.go:237", #[], none⟩
theorem gR1_0_at (A : PL) : (gR1 A)[0]? = some (gR1_0 A) := rfl
def gR1_1 (A : PL) : Oper := ⟨some 5, .call ⟨.value (.func A.L.add), #[.tmp 4, .const (.int .i64 1)], #[A.L.tWgP, 3]⟩, 0, "waitgroup.go:237", #[⟨0, .data⟩], none⟩
theorem gR1_1_at (A : PL) : (gR1 A)[1]? = some (gR1_1 A) := rfl
def gR2_0 (A : PL) : Oper := ⟨some 6, .makeFunc (.func A.fGo1) #[] #[.tmp 2, .tmp 3], A.tF, "waitgroup.go:238", #[], none⟩
theorem gR2_0_at (A : PL) : (gR2 A)[0]? = some (gR2_0 A) := rfl
def gR2_1 (A : PL) : Oper := ⟨none, .go ⟨.value (.tmp 6), #[], #[]⟩, 0, "waitgroup.go:238", #[⟨0, .data⟩], none⟩
theorem gR2_1_at (A : PL) : (gR2 A)[1]? = some (gR2_1 A) := rfl
def pR7_0 (A : PL) : Oper := ⟨some 21, .binOp .add 3 (.tmp 14) (.const (.int .i64 1)) 3, 3, "round.go:44", #[], none⟩
theorem pR7_0_at (A : PL) : (pR7 A)[0]? = some (pR7_0 A) := rfl
def pR7_1 (A : PL) : Oper := ⟨some 14, .move (.tmp 21), 3, "round.go:44", #[⟨0, .data⟩], none⟩
theorem pR7_1_at (A : PL) : (pR7 A)[1]? = some (pR7_1 A) := rfl
def pR8_0 (A : PL) : Oper := ⟨some 22, .call ⟨.value (.func A.L.wait), #[.tmp 6], #[A.L.tWg]⟩, 0, "round.go:50", #[], none⟩
theorem pR8_0_at (A : PL) : (pR8 A)[0]? = some (pR8_0 A) := rfl
def pR9_0 (A : PL) : Oper := ⟨some 23, .load A.tPs (.tmp 5), A.tPs, "round.go:51", #[], none⟩
theorem pR9_0_at (A : PL) : (pR9 A)[0]? = some (pR9_0 A) := rfl
def pR9_1 (A : PL) : Oper := ⟨some 4, .assign (.tmp 23), A.tPs, "round.go:51", #[⟨0, .data⟩, ⟨0, .phase⟩], none⟩
theorem pR9_1_at (A : PL) : (pR9 A)[1]? = some (pR9_1 A) := rfl
def hR0_0 (A : PL) : Oper := ⟨some 2, .makeFunc (.func A.fGo11) #[] #[.tmp 0], A.tF, "waitgroup.go:239", #[], none⟩
theorem hR0_0_at (A : PL) : (hR0 A)[0]? = some (hR0_0 A) := rfl
def hR0_1 (A : PL) : Oper := ⟨none, .defer ⟨.value (.tmp 2), #[], #[]⟩, 0, "waitgroup.go:239", #[⟨0, .data⟩], none⟩
theorem hR0_1_at (A : PL) : (hR0 A)[1]? = some (hR0_1 A) := rfl
def hR1_0 (A : PL) : Oper := ⟨some 3, .load A.tF (.tmp 1), A.tF, "waitgroup.go:258", #[], none⟩
theorem hR1_0_at (A : PL) : (hR1 A)[0]? = some (hR1_0 A) := rfl
def hR1_1 (A : PL) : Oper := ⟨some 4, .call ⟨.value (.tmp 3), #[], #[]⟩, 0, "waitgroup.go:258", #[⟨0, .data⟩], none⟩
theorem hR1_1_at (A : PL) : (hR1 A)[1]? = some (hR1_1 A) := rfl
def kR0_0 (A : PL) : Oper := ⟨some 2, .call ⟨.builtin .recover, #[], #[]⟩, A.tE, "waitgroup.go:240", #[], none⟩
theorem kR0_0_at (A : PL) : (kR0 A)[0]? = some (kR0_0 A) := rfl
def kR0_1 (A : PL) : Oper := ⟨some 1, .assign (.tmp 2), A.tE, "waitgroup.go:240", #[⟨0, .data⟩, ⟨0, .chain⟩, ⟨0, .phase⟩], none⟩
theorem kR0_1_at (A : PL) : (kR0 A)[1]? = some (kR0_1 A) := rfl
def kR1_0 (A : PL) : Oper := ⟨some 3, .move (.tmp 1), A.tE, "waitgroup.go:240", #[], none⟩
theorem kR1_0_at (A : PL) : (kR1 A)[0]? = some (kR1_0 A) := rfl
def kR1_1 (A : PL) : Oper := ⟨some 4, .binOp .neq A.tE (.tmp 3) (.const .nilIface) A.tE, 4, "waitgroup.go:240", #[⟨0, .data⟩], none⟩
theorem kR1_1_at (A : PL) : (kR1 A)[1]? = some (kR1_1 A) := rfl
def kR3_0 (A : PL) : Oper := ⟨some 6, .load A.L.tWgP (.tmp 0), A.L.tWgP, "waitgroup.go:256", #[], none⟩
theorem kR3_0_at (A : PL) : (kR3 A)[0]? = some (kR3_0 A) := rfl
def kR3_1 (A : PL) : Oper := ⟨some 7, .call ⟨.value (.func A.L.done), #[.tmp 6], #[A.L.tWgP]⟩, 0, "waitgroup.go:256", #[⟨0, .data⟩], none⟩
theorem kR3_1_at (A : PL) : (kR3 A)[1]? = some (kR3_1 A) := rfl
def qR2_0 (A : PL) : Oper := ⟨some 6, .box A.L.tWg (.const (.agg #[])), 0, "", #[], none⟩
theorem qR2_0_at (A : PL) : (qR2 A)[0]? = some (qR2_0 A) := rfl
structure yyy (P : Program) (A : PL) : Prop where
 wg : WgLib P A.L
 pulls : P.funcs[A.fPulls]? = some (ypw A)
 go : P.funcs[A.fGo]? = some (goFn A)
 go1 : P.funcs[A.fGo1]? = some (go1Fn A)
 go11 : P.funcs[A.fGo11]? = some (go11Fn A)
 isAgg_tF : ∀ w, (isAgg A.tF).run P w = .ok false w
 under_tE : ∃ ms, ∀ w, (underlying A.tE).run P w = .ok (.interface ms) w
open Go.ConcX (WgAt wgBlock stA smA KK rd wr mk DC0)
theorem q_pulls {P : Program} {A : PL} (H : yyy P A) : (twin P A).funcs[A.fPulls]? = some (ytf A) := by
 simp [twin, Array.getElem?_mapIdx, H.pulls, yis]
/-! ### slots -/
theorem yae {a : Act} {d t : Nat} (h : d ≠ t) (x : Value) : (a.put (some d) x).eval (.tmp t) = a.eval (.tmp t) := by
 simp [Act.put, Act.eval, Array.getD_eq_getD_getElem?, Array.getElem?_setIfInBounds_ne h]
theorem yaj {a : Act} {d : Nat} (h : d < a.tmps.size) (x : Value) : (a.put (some d) x).eval (.tmp d) = x := by
 simp [Act.put, Act.eval, Array.getD_eq_getD_getElem?, h]
theorem put_put {a : Act} {d : Nat} (x y : Value) : (a.put (some d) x).put (some d) y = a.put (some d) y := by
 simp [Act.put]
@[simp] theorem put_size {a : Act} {d : Option Nat} (x : Value) : (a.put d x).tmps.size = a.tmps.size := by
 unfold Act.put; split <;> simp
@[simp] theorem put_defers {a : Act} {d : Option Nat} (x : Value) : (a.put d x).defers = a.defers := by
 unfold Act.put; split <;> rfl
theorem eval_of_get {a a' : Act} {t : Nat} (h : a'.tmps[t]? = a.tmps[t]?) : a'.eval (.tmp t) = a.eval (.tmp t) := by
 simp [Act.eval, Array.getD_eq_getD_getElem?, h]
def yhv (Q : Program) (ops : Array Oper) : Bool := ops.all fun o => o.guard.isNone && ydo Q o.op && yee o.op
theorem yjw {Q : Program} {ops : Array Oper} (h : yhv Q ops = true) : ∀ i ∈ List.range ops.size, ∃ o, ops[i]? = some o ∧ o.guard = none ∧ ydo Q o.op = true ∧ yee o.op = true := by
 intro i hi
 have hi := List.mem_range.1 hi
 unfold yhv at h
 rw [Array.all_eq_true] at h
 have := h i hi
 simp only [Bool.and_eq_true, Option.isNone_iff_eq_none] at this
 exact ⟨ops[i], Array.getElem?_eq_getElem hi, this.1.1, this.1.2, this.2⟩
theorem good0 {P : Program} {A : PL} : yhv P (pR0 A) = true := by simp [yhv, pR0, ydo, okB, yee]
theorem good1 {P : Program} {A : PL} : yhv P (pR1 A) = true := by simp [yhv, pR1, ydo, okB, yee]
theorem good5 {P : Program} {A : PL} : yhv P (pR5 A) = true := by simp [yhv, pR5, ydo, okB, yee]
theorem yem (p : Program) (fn : FuncId) : seen p fn #[] = #[] := by unfold seen; rfl
/-! ### what is left to do, at each place -/
def pK8 (A : PL) : Code := (Code.region 8 (pR8 A) false).seq ((Code.region 9 (pR9 A) false).seq Code.ret)
def pK2 (A : PL) : Code := ((Code.region 3 (pR3 A) false).seq (Code.block 0 (pLoop A).loop)).seq (pK8 A)
def qK9 (A : PL) : Code := (Code.region 9 (pR9 A) false).seq Code.ret
def qK2 (A : PL) : Code := (Code.region 3 (pR3 A) false).seq ((Code.region 10 (qRa A) false).seq ((Code.cond (Operand.tmp 15) Code.skip (Code.refuse "twin")).seq ((Code.region 4 (pR4 A) false).seq ((Code.cond (Operand.tmp 15) Code.skip (Code.refuse "twin")).seq ((Code.region 5 (pR5 A) false).seq ((Code.region 6 (qR6 A) false).seq (qK9 A)))))))
def pK6 (A : PL) : List Item := [.inBlock 1, .code (Code.region 7 (pR7 A) false), .inLoop (pLoop A), .inBlock 0, .code (pK8 A)]
section
variable {P : Program} {A : PL} {Stop : Frame → World → Prop} {Done : Array Goroutine → World → Trace → Prop} {c : Nat} {s0 : Org} {X : Nat → Prop} {I : Trace → Nat → Prop} {w : World} {inner cs : List Frame} {Z D : Nat → Prop}
theorem stageA (T : yqz P (twin P A) (ydo (twin P A)) (fun _ => True) Z D yca) (hI : ydc c I) (hF : yfq X I) (a : Act) (h24 : 24 ≤ a.tmps.size) (hd : a.defers = []) (hq : QAt (twin P A) Stop s0 X w ((base A.fPulls).at a [.code (ygq A)]) inner)
  (k : ∀ a w, 24 ≤ a.tmps.size → a.defers = [] → QAt (twin P A) Stop s0 X w ((base A.fPulls).at a [.inRegion (qR2 A) [0], .code (qK2 A)]) inner → yat P Done c I (gor ((base A.fPulls).at a [.inRegion (pR2 A) [0], .code (pK2 A)]) cs) w) :
  yat P Done c I (gor ((base A.fPulls).at a [.code (ypv A)]) cs) w := by
 refine yat.ctrl hI (fun _ => stepG_seq) fun d => ?_
 replace hq := QAt.at hq d
 generalize w.at d = w at hq ⊢
 replace hq := hq.seq
 refine yat.ctrl hI (fun _ => stepG_region) fun d => ?_
 replace hq := QAt.at hq d
 generalize w.at d = w at hq ⊢
 replace hq := hq.region
 refine yat.region T hI hF rfl rfl _ a w (yjw good0) hq fun a1 w e1 e2 _ _ hq => ?_
 replace hq := hq.regionEnd
 refine yat.ctrl hI (fun _ => stepG_region_end) fun d => ?_
 replace hq := QAt.at hq d
 generalize w.at d = w at hq ⊢
 replace hq := hq.seq
 refine yat.ctrl hI (fun _ => stepG_seq) fun d => ?_
 replace hq := QAt.at hq d
 generalize w.at d = w at hq ⊢
 replace hq := hq.region
 refine yat.ctrl hI (fun _ => stepG_region) fun d => ?_
 replace hq := QAt.at hq d
 generalize w.at d = w at hq ⊢
 refine yat.region T hI hF rfl rfl _ a1 w (yjw good1) hq fun a2 w e3 e4 _ _ hq => ?_
 replace hq := hq.regionEnd
 refine yat.ctrl hI (fun _ => stepG_region_end) fun d => ?_
 replace hq := QAt.at hq d
 generalize w.at d = w at hq ⊢
 replace hq := hq.seq
 refine yat.ctrl hI (fun _ => stepG_seq) fun d => ?_
 replace hq := QAt.at hq d
 generalize w.at d = w at hq ⊢
 replace hq := hq.region
 refine yat.ctrl hI (fun _ => stepG_region) fun d => ?_
 replace hq := QAt.at hq d
 generalize w.at d = w at hq ⊢
 exact k a2 w (by omega) (by rw [e4, e2, hd]) hq
theorem alloc_step (H : yyy P A) {k : List Item} (a : Act) (w : World) : stepG P true (gor ((base A.fPulls).at a (.inRegion (pR2 A) [0] :: k)) cs) w =
  .go (gor ((base A.fPulls).at (a.put (some 6) (.pointer (some ⟨w.heap.size, 0, none⟩))) (.inRegion (pR2 A) [] :: k)) cs) { w with heap := w.heap.push (wgBlock A.L.tWg 0 0) } #[] := by
 have hr : (execOp a.eval ⟨some 6, .alloc A.L.tWg, 0, "round.go:43", #[], none⟩).run P w = .ok (.value (.pointer (some ⟨w.heap.size, 0, none⟩))) { w with heap := w.heap.push (wgBlock A.L.tWg 0 0) } := by
  simp only [execOp, Instr.alloc, Sem.run_bind, H.wg.zeroValue_tWg, Result.andThen]
  rfl
 have := stepG_value (P := P) (main := true) (b := base A.fPulls) (a := a) (k := k) (cs := cs) (ops := pR2 A) (i := 0) (rest := []) (o := ⟨some 6, .alloc A.L.tWg, 0, "round.go:43", #[], none⟩) rfl rfl (by simp [base]) hr
 rw [show gor ((base A.fPulls).at a (.inRegion (pR2 A) [0] :: k)) cs = G ((base A.fPulls).at a (.inRegion (pR2 A) [0] :: k)) cs from rfl, this]
 have hl : listed P (base A.fPulls).fn a ⟨some 6, .alloc A.L.tWg, 0, "round.go:43", #[], none⟩ w = #[] := by
  have : (execOp a.eval ⟨some 6, .alloc A.L.tWg, 0, "round.go:43", #[], none⟩).events P w #[] = #[] := by
   simp [execOp, Instr.alloc, newVar, newRow, H.wg.zeroValue_tWg, Result.evThen]
  unfold listed
  rw [this, yem]
 rw [hl]
 rfl
end
end Go.Sim

namespace Go.Sim
open Go.Conc Go.RowKit Go.Conc.Lib
open Go.ConcX (WgAt wgBlock stA smA KK rd wr mk DC0)
theorem ysa {s : GStep} {g0 : Goroutine} {w0 : World} {e0 : Array Event} (h : s.goes (fun g w es => g = g0 ∧ w = w0 ∧ es = e0)) : s = .go g0 w0 e0 := by
 cases s with
 |go g w es => obtain ⟨rfl, rfl, rfl⟩ := h; rfl
 |_ => exact h.elim
def bodyV (A : PL) (a : Act) : Value := .func (.func A.fBody) #[] #[a.eval (.tmp 2), a.eval (.tmp 8), a.eval (.tmp 5), a.eval (.tmp 7)]
section
variable {P : Program} {A : PL} {Stop : Frame → World → Prop} {Done : Array Goroutine → World → Trace → Prop} {c : Nat} {s0 : Org} {X : Nat → Prop} {I : Trace → Nat → Prop} {w : World} {inner cs : List Frame} {Z D : Nat → Prop}
theorem stageB (T : yqz P (twin P A) (ydo (twin P A)) (fun _ => True) Z D yca) (hI : ydc c I) (hF : yfq X I) {Wg : Nat} (hX : X Wg) (a : Act) (h24 : 24 ≤ a.tmps.size) (hd : a.defers = [])
  (hq : QAt (twin P A) Stop s0 X w ((base A.fPulls).at a [.inRegion (qR2 A) [], .code (qK2 A)]) inner) (hW : WgAt A.L.tWg Wg w 0 0)
  (k : ∀ a' w, 24 ≤ a'.tmps.size → a'.defers = [] → a'.eval (.tmp 6) = a.eval (.tmp 6) → a'.eval (.tmp 13) = .int .i64 1 → a'.eval (.tmp 14) = .int .i64 0 → a'.eval (.tmp 19) = bodyV A a' → WgAt A.L.tWg Wg w 0 0 →
   QAt (twin P A) Stop s0 X w ((base A.fPulls).at a' [.inRegion (qR6 A) [1, 2, 3], .code (qK9 A)]) inner → yat P Done c I (gor ((base A.fPulls).at a' (.inRegion (pR6 A) [1] :: pK6 A)) cs) w) :
  yat P Done c I (gor ((base A.fPulls).at a [.inRegion (pR2 A) [], .code (pK2 A)]) cs) w := by
 have keep : ∀ {w w' : World}, ycq X w w' → WgAt A.L.tWg Wg w 0 0 → WgAt A.L.tWg Wg w' 0 0 := fun hg h => (hg.keep Wg hX).trans h
 refine yat.ctrl hI (fun _ => stepG_region_end) fun d => ?_
 replace hq := QAt.at hq d
 replace hW : WgAt A.L.tWg Wg (w.at d) 0 0 := hW
 generalize w.at d = w at hq hW ⊢
 replace hq := hq.regionEnd
 refine yat.ctrl hI (fun _ => stepG_seq) fun d => ?_
 replace hq := QAt.at hq d
 replace hW : WgAt A.L.tWg Wg (w.at d) 0 0 := hW
 generalize w.at d = w at hq hW ⊢
 replace hq := hq.seq
 refine yat.ctrl hI (fun _ => stepG_seq) fun d => ?_
 replace hq := QAt.at hq d
 replace hW : WgAt A.L.tWg Wg (w.at d) 0 0 := hW
 generalize w.at d = w at hq hW ⊢
 refine yat.ctrl hI (fun _ => stepG_region) fun d => ?_
 replace hq := QAt.at hq d
 replace hW : WgAt A.L.tWg Wg (w.at d) 0 0 := hW
 generalize w.at d = w at hq hW ⊢
 replace hq := hq.region
 rw [show List.range (pR3 A).size = [0, 1, 2] from rfl] at hq ⊢
 refine yat.op T hI hF hq rfl rfl (pR3_0_at A) rfl (pR3_0_at A) rfl rfl rfl rfl fun x0 w1 hg hq _ => ?_
 replace hW := keep hg hW
 clear hg
 refine yat.op T hI hF hq rfl rfl (pR3_1_at A) rfl (pR3_1_at A) rfl rfl rfl rfl fun x1 w2 hg hq _ => ?_
 replace hW := keep hg hW
 clear hg
 refine yat.op T hI hF hq rfl rfl (pR3_2_at A) rfl (pR3_2_at A) rfl rfl rfl rfl fun x2 w hg hq hv => ?_
 replace hW := keep hg hW
 clear hg
 obtain ⟨v, v', r, hv, hz⟩ := hv
 have hx2 := yog rfl hv hz
 subst hx2
 clear hv hz v v' r
 dsimp only [pR3_0, pR3_1, pR3_2] at hq ⊢
 generalize ha3 : ((a.put (some 12) x0).put (some 13) x1).put (some 14) (Act.eval ((a.put (some 12) x0).put (some 13) x1) (.const (.int .i64 0))) = a3 at hq ⊢
 have s3 : a3.tmps.size = a.tmps.size := by rw [← ha3]; simp
 have d3 : a3.defers = [] := by rw [← ha3]; simp [hd]
 have e6 : a3.eval (.tmp 6) = a.eval (.tmp 6) := by
  rw [← ha3, yae (by decide), yae (by decide), yae (by decide)]
 have e14 : a3.eval (.tmp 14) = .int .i64 0 := by
  rw [← ha3, yaj (by simp; omega)]
  rfl
 -- the second's check
 replace hq := hq.regionEnd.seq.region
 rw [show List.range (qRa A).size = [0] from rfl] at hq
 obtain ⟨n, e13, hq⟩ := hq.leq rfl (qRa_0_at A) rfl rfl
 dsimp only [qRa_0] at hq
 replace hq := hq.regionEnd.seq
 obtain ⟨t, et, hq⟩ := hq.cond
 rw [yaj (by omega)] at et
 cases t with
 |false => exact (QAt.refuse hq).elim
 |true =>
 have hn1 : n ≤ 1 := by simpa using et
 replace hq := hq.skip.seq.region
 rw [show List.range (pR4 A).size = [0] from rfl] at hq
 -- the first comes to its loop
 refine yat.ctrl hI (fun _ => stepG_region_end) fun d => ?_
 replace hq := QAt.at hq d
 replace hW : WgAt A.L.tWg Wg (w.at d) 0 0 := hW
 generalize w.at d = w at hq hW ⊢
 refine yat.ctrl hI (fun _ => stepG_block) fun d => ?_
 replace hq := QAt.at hq d
 replace hW : WgAt A.L.tWg Wg (w.at d) 0 0 := hW
 generalize w.at d = w at hq hW ⊢
 refine yat.ctrl hI (fun _ => stepG_loop) fun d => ?_
 replace hq := QAt.at hq d
 replace hW : WgAt A.L.tWg Wg (w.at d) 0 0 := hW
 generalize w.at d = w at hq hW ⊢
 refine yat.ctrl hI (fun _ => stepG_seq) fun d => ?_
 replace hq := QAt.at hq d
 replace hW : WgAt A.L.tWg Wg (w.at d) 0 0 := hW
 generalize w.at d = w at hq hW ⊢
 refine yat.ctrl hI (fun _ => stepG_region) fun d => ?_
 replace hq := QAt.at hq d
 replace hW : WgAt A.L.tWg Wg (w.at d) 0 0 := hW
 generalize w.at d = w at hq hW ⊢
 rw [show List.range (pR4 A).size = [0] from rfl]
 refine yat.op T hI hF hq rfl rfl (yuv A) rfl (yuv A) rfl ?_ rfl rfl fun x w hg hq hv => ?_
 ·simp only [execOp, pR4_0, yae (a := a3) (d := 15) (t := 14) (by decide), yae (a := a3) (d := 15) (t := 13) (by decide)]
 replace hW := keep hg hW
 clear hg
 obtain ⟨v, v', r, hv, hz⟩ := hv
 have hx := lss_val rfl ((yae (a := a3) (d := 15) (t := 14) (by decide) _).trans e14) ((yae (a := a3) (d := 15) (t := 13) (by decide) _).trans e13) hv hz
 subst hx
 clear hv hz v v' r
 dsimp only [pR4_0] at hq ⊢
 rw [put_put] at hq
 replace hq := hq.regionEnd.seq
 obtain ⟨t, et, hq⟩ := hq.cond
 rw [yaj (by omega)] at et
 cases t with
 |false => exact (QAt.refuse hq).elim
 |true =>
 have hn0 : 0 < n := by simpa using et
 have hn : n = 1 := by omega
 subst hn
 replace hq := hq.skip.seq.region
 generalize ha4 : a3.put (some 15) (.bool (decide ((0 : Int) < 1))) = a4 at hq ⊢
 have s4 : a4.tmps.size = a.tmps.size := by rw [← ha4]; simp [s3]
 have d4 : a4.defers = [] := by rw [← ha4]; simp [d3]
 have f6 : a4.eval (.tmp 6) = a.eval (.tmp 6) := by rw [← ha4, yae (by decide), e6]
 have f13 : a4.eval (.tmp 13) = .int .i64 1 := by rw [← ha4, yae (by decide), e13]
 have f14 : a4.eval (.tmp 14) = .int .i64 0 := by rw [← ha4, yae (by decide), e14]
 have f15 : a4.eval (.tmp 15) = .bool true := by rw [← ha4, yaj (by omega)]; rfl
 refine yat.ctrl hI (fun _ => stepG_region_end) fun d => ?_
 replace hq := QAt.at hq d
 replace hW : WgAt A.L.tWg Wg (w.at d) 0 0 := hW
 generalize w.at d = w at hq hW ⊢
 refine yat.ctrl hI (fun _ => stepG_seq) fun d => ?_
 replace hq := QAt.at hq d
 replace hW : WgAt A.L.tWg Wg (w.at d) 0 0 := hW
 generalize w.at d = w at hq hW ⊢
 refine yat.ctrl hI (fun _ => (stepG_cond f15)) fun d => ?_
 replace hq := QAt.at hq d
 replace hW : WgAt A.L.tWg Wg (w.at d) 0 0 := hW
 generalize w.at d = w at hq hW ⊢
 refine yat.ctrl hI (fun _ => stepG_skip) fun d => ?_
 replace hq := QAt.at hq d
 replace hW : WgAt A.L.tWg Wg (w.at d) 0 0 := hW
 generalize w.at d = w at hq hW ⊢
 refine yat.ctrl hI (fun _ => stepG_seq) fun d => ?_
 replace hq := QAt.at hq d
 replace hW : WgAt A.L.tWg Wg (w.at d) 0 0 := hW
 generalize w.at d = w at hq hW ⊢
 refine yat.ctrl hI (fun _ => stepG_block) fun d => ?_
 replace hq := QAt.at hq d
 replace hW : WgAt A.L.tWg Wg (w.at d) 0 0 := hW
 generalize w.at d = w at hq hW ⊢
 refine yat.ctrl hI (fun _ => stepG_seq) fun d => ?_
 replace hq := QAt.at hq d
 replace hW : WgAt A.L.tWg Wg (w.at d) 0 0 := hW
 generalize w.at d = w at hq hW ⊢
 refine yat.ctrl hI (fun _ => stepG_region) fun d => ?_
 replace hq := QAt.at hq d
 replace hW : WgAt A.L.tWg Wg (w.at d) 0 0 := hW
 generalize w.at d = w at hq hW ⊢
 refine yat.region T hI hF rfl rfl _ a4 w (yjw good5) hq fun a5 w s5 d5 e5 hg hq => ?_
 replace hW := keep hg hW
 clear hg
 have nd : ∀ t, t ≠ 16 → t ≠ 17 → t ≠ 18 → t ≠ 7 → t ≠ 8 → a5.eval (.tmp t) = a4.eval (.tmp t) := by
  intro t h1 h2 h3 h4 h5
  refine eval_of_get (e5 t ?_)
  rintro ⟨i, hi, o, ho, hdst⟩
  rw [show List.range (pR5 A).size = [0, 1, 2, 3, 4, 5, 6] from rfl] at hi
  simp only [List.mem_cons, List.not_mem_nil, or_false] at hi
  rcases hi with rfl | rfl | rfl | rfl | rfl | rfl | rfl <;> (cases ho; first | (cases hdst; done) | (cases hdst; first | exact h1 rfl | exact h2 rfl | exact h3 rfl | exact h4 rfl | exact h5 rfl))
 replace hq := hq.regionEnd.seq.region
 rw [show List.range (qR6 A).size = [0, 1, 2, 3] from rfl] at hq
 refine yat.ctrl hI (fun _ => stepG_region_end) fun d => ?_
 replace hq := QAt.at hq d
 replace hW : WgAt A.L.tWg Wg (w.at d) 0 0 := hW
 generalize w.at d = w at hq hW ⊢
 refine yat.ctrl hI (fun _ => stepG_region) fun d => ?_
 replace hq := QAt.at hq d
 replace hW : WgAt A.L.tWg Wg (w.at d) 0 0 := hW
 generalize w.at d = w at hq hW ⊢
 rw [show List.range (pR6 A).size = [0, 1] from rfl]
 refine yat.op T hI hF hq rfl rfl (qR6_0_at A) rfl (pR6_0_at A) rfl rfl rfl rfl fun x w hg hq hv => ?_
 replace hW := keep hg hW
 clear hg
 obtain ⟨v, v', r, hv, hz⟩ := hv
 have hx := yxa rfl hv hz
 subst hx
 clear hv hz v v' r
 dsimp only [qR6_0, pR6_0] at hq ⊢
 refine k _ w (by simp; omega) (by simp [d5, d4]) ?_ ?_ ?_ ?_ hW hq
 ·rw [yae (by decide), nd 6 (by decide) (by decide) (by decide) (by decide) (by decide), f6]
 ·rw [yae (by decide), nd 13 (by decide) (by decide) (by decide) (by decide) (by decide), f13]
 ·rw [yae (by decide), nd 14 (by decide) (by decide) (by decide) (by decide) (by decide), f14]
 ·rw [yaj (by omega)]
  unfold bodyV
  rw [yae (by decide), yae (by decide), yae (by decide), yae (by decide)]
  simp
end
end Go.Sim

namespace Go.Sim
open Go.Conc Go.RowKit Go.Conc.Lib Go.ConcX.Gen
open Go.ConcX (WgAt wgBlock stA smA KK rd wr mk DC0)
theorem yfq.mono {X X' : Nat → Prop} {I : Trace → Nat → Prop} (h : yfq X I) (hX : ∀ b, X b → X' b) : yfq X' I := by
 intro T B B' fn pos es hT hB he
 refine h T B B' fn pos es hT hB fun e hm => ?_
 have := he e hm
 obtain ⟨loc, x, y⟩ := e
 cases loc with
 |cell a => exact ⟨fun q => this.1 (hX _ q), this.2⟩
 |obj r => exact ⟨fun q => this.1 (hX _ q), this.2⟩
 |mark m => exact this
 |output => trivial
 |goroutines => exact this.elim
section
variable {P Q : Program} {A : PL} {Stop : Frame → World → Prop} {Done : Array Goroutine → World → Trace → Prop} {c : Nat} {s0 : Org} {X : Nat → Prop} {I : Trace → Nat → Prop} {w : World} {inner cs cs' : List Frame} {Z D : Nat → Prop}
theorem yat.ctrlw (hI : ydc c I) {fr fr' : Frame} (hst : ∀ d, stepG P true (gor fr cs) (w.at d) = .go (gor fr' cs') (w.at d) #[]) (h : ∀ d, yat P Done c I (gor fr' cs') (w.at d)) : yat P Done c I (gor fr cs) w := by
 refine yat.step (I' := I) hI rfl fun d => ⟨_, _, _, hst _, fun T fn pos hT => ?_, h d⟩
 rw [yuu]
 exact hT
theorem yat.bare (hI : ydc c I) (hF : yfq X I) {bQ : Frame} {aQ : Act} {opsQ : Array Oper} {i t : Nat} {restQ : List Nat} {kQ : List Item} {oQ : Oper} (hq : QAt Q Stop s0 X w (bQ.at aQ (.inRegion opsQ (i :: restQ) :: kQ)) inner) (hnQ : bQ.kind = .normal)
  (hoQ : opsQ[i]? = some oQ) (hgQ : oQ.guard = none) (hop : oQ.op = .box t (.const (.agg #[]))) (cells : Array Value) {fr fr' : Frame}
  (hst : ∀ d, stepG P true (gor fr cs) (w.at d) = .go (gor fr' cs) { w.at d with heap := w.heap.push (.cells cells t (0, 0)) } #[])
  (k : ∀ w', w'.heap = w.heap.push (.cells cells t (0, 0)) → QAt Q Stop s0 (fun b => X b ∨ b = w.heap.size) w' (bQ.at (aQ.put oQ.dst (.pointer (some ⟨w.heap.size, 0, none⟩))) (.inRegion opsQ restQ :: kQ)) inner → yat P Done c I (gor fr' cs) w') :
  yat P Done c I (gor fr cs) w := by
 refine yat.step (I' := I) hI rfl fun d => ⟨_, _, _, hst d, fun T fn pos hT => ?_, k _ rfl ((hq.at d).bare hnQ hoQ hgQ hop cells)⟩
 exact hF T _ _ fn pos #[] hT (by simp) (by simp)
theorem QAt.setX {fr : Frame} (h : QAt Q Stop s0 X w fr inner) {a : Addr} (hX : X a.block) (x : Value) : QAt Q Stop s0 X (w.setCell a x) fr inner := by
 obtain ⟨v, hb, hs, hK⟩ := h
 exact ⟨v, hb, hs.setX hX x, hK.setCell a x⟩
theorem yfj {w : World} {a : Addr} {b : Nat} (h : a.block ≠ b) (x : Value) : (w.setCell a x).heap[b]? = w.heap[b]? := by
 unfold World.setCell
 simp only [Array.getElem?_modify, h, if_false]
theorem seen_quiet {f : Nat} {fn : Func} (hf : P.funcs[f]? = some fn) (hn : fn.norace = true) (a : Addr) (x : Bool) : seen P f #[⟨.cell a, x, false⟩] = #[] := by
 unfold seen
 simp [hf, hn]
theorem ymv {m : Bool} {b : Frame} {a : Act} {ops : Array Oper} {i : Nat} {rest : List Nat} {k : List Item} {cs : List Frame} {o : Oper} {t : Nat} {p : Operand} {B : Nat} {x : Value} {u : Nat} {fn : Func} (hf : P.funcs[b.fn]? = some fn) (hn : fn.norace = true) (hk : b.kind ≠ .early)
  (ho : ops[i]? = some o) (hg : o.guard = none) (hop : o.op = .load t p) (hp : a.eval p = .pointer (some ⟨B, 0, none⟩)) (hag : ∀ w, (isAgg t).run P w = .ok false w) {w : World} (hw : w.heap[B]? = some (.cells #[x] u (0, 0))) :
  stepG P m (gor (b.at a (.inRegion ops (i :: rest) :: k)) cs) w = .go (gor (b.at (a.put o.dst x) (.inRegion ops rest :: k)) cs) w #[] := by
 have hc : w.cell? ⟨B, 0, none⟩ = some x := by simp [World.cell?, hw]
 have hr : (execOp a.eval o).run P w = .ok (.value x) w := by
  unfold execOp
  rw [hop]
  simp [hp, Instr.loadAt, Instr.sureAddr, loadVar, hag, Result.andThen, load]
  simp only [Sem.run, hc]
 have he : (execOp a.eval o).events P w #[] = #[⟨.cell ⟨B, 0, none⟩, false, false⟩] := by
  unfold execOp
  rw [hop]
  simp [hp, Instr.loadAt, Instr.sureAddr, loadVar, hag, hc, Result.evThen]
 have := stepG_value (P := P) (main := m) (b := b) (a := a) (k := k) (cs := cs) (rest := rest) ho (ygi hg _) hk hr
 rw [show gor (b.at a (.inRegion ops (i :: rest) :: k)) cs = G (b.at a (.inRegion ops (i :: rest) :: k)) cs from rfl, this]
 unfold listed
 rw [he, seen_quiet hf hn]
 rfl
theorem ygd {m : Bool} {b : Frame} {a : Act} {k : List Item} {cs : List Frame} {w : World} {ops : Array Oper} {i : Nat} {rest : List Nat} {o : Oper} {f : FuncId} {fn : Func} {c : Code} {args : Array Operand} {ats : Array TypeId}
  (ho : ops[i]? = some o) (hg : o.guard = none) (hk : b.kind ≠ .early) (hop : o.op = .call { callee := .value (.func f), args, argTypes := ats })
  (hf : P.funcs[f]? = some fn) (hname : (fn.name == "runtime.NumGoroutine") = false) (hb : fn.body = some c) :
  stepG P m (gor (b.at a (.inRegion ops (i :: rest) :: k)) cs) w = .go (gor ((base f).at { tmps := args.map a.eval ++ Array.replicate (fn.ntmps - (args.map a.eval).size) undef, defers := [] } [.code c]) (b.at a (.inRegion ops (i :: rest) :: k) :: cs)) w #[] :=
 ysa (goes_call ho (ygi hg _) hk hop hf hname hb ⟨rfl, rfl, rfl⟩)
def gK (A : PL) : List Item := [.code ((Code.region 1 (gR1 A) false).seq (Code.region 2 (gR2 A) false))]
theorem yat.cast {b : Frame} {tm tm' : Array Value} {df : List Deferred} {k : List Item} (h : tm = tm') (hs : yat P Done c I (gor (b.at ⟨tm', df⟩ k) cs) w) : yat P Done c I (gor (b.at ⟨tm, df⟩ k) cs) w := h ▸ hs
def yrh (A : PL) (Wg B1 B2 : Nat) (body : Value) : Act := ⟨#[.pointer (some ⟨Wg, 0, none⟩), body, .pointer (some ⟨B1, 0, none⟩), .pointer (some ⟨B2, 0, none⟩), .pointer (some ⟨Wg, 0, none⟩), .tuple #[], .func (.func A.fGo1) #[] #[.pointer (some ⟨B1, 0, none⟩), .pointer (some ⟨B2, 0, none⟩)]], []⟩
structure Made (A : PL) (Wg B1 B2 : Nat) (body : Value) (st : Int) (w : World) : Prop where
 wg : WgAt A.L.tWg Wg w st 0
 b1 : w.heap[B1]? = some (.cells #[.pointer (some ⟨Wg, 0, none⟩)] A.L.tWgP (0, 0))
 b2 : w.heap[B2]? = some (.cells #[body] A.tF (0, 0))
theorem stageC (H : yyy P A) (hc : 0 < c) {Shun : Loc → Prop} {Wg : Nat} (hX : X Wg) (hS : ∀ l, Shun l → ∃ a, l = .cell a ∧ X a.block) (hWS : ∀ a : Addr, a.block = Wg → ¬ Shun (.cell a)) (a : Act) (h24 : 24 ≤ a.tmps.size) (body : Value) (e6 : a.eval (.tmp 6) = .pointer (some ⟨Wg, 0, none⟩)) (e19 : a.eval (.tmp 19) = body) (hbody : body.cells = #[body])
  (hq : QAt (twin P A) Stop s0 X w ((base A.fPulls).at a [.inRegion (qR6 A) [1, 2, 3], .code (qK9 A)]) inner) (hW : WgAt A.L.tWg Wg w 0 0)
  (k : ∀ w B1 B2, B1 = w.heap.size - 2 → B2 = w.heap.size - 1 → Wg < B1 → B1 < B2 → Made A Wg B1 B2 body KK w →
   QAt (twin P A) Stop s0 (fun b => (X b ∨ b = B1) ∨ b = B2) w ((base A.fPulls).at ((a.put (some 20) (.pointer (some ⟨B1, 0, none⟩))).put (some 21) (.pointer (some ⟨B2, 0, none⟩))) [.inRegion (qR6 A) [3], .code (qK9 A)]) inner →
   yat P Done c (fun T B => Pre Shun B Wg 0 T) (gor ((base A.fGo).at (yrh A Wg B1 B2 body) [.inRegion (gR2 A) [1]]) ((base A.fPulls).at a (.inRegion (pR6 A) [1] :: pK6 A) :: cs)) w) :
  yat P Done c (fun T B => Pre Shun B Wg 0 T) (gor ((base A.fPulls).at a (.inRegion (pR6 A) [1] :: pK6 A)) cs) w := by
 have hI : ydc c (fun T B => Pre Shun B Wg 0 T) := yva
 have hF : yfq X (fun T B => Pre Shun B Wg 0 T) := fun T B B' fn pos es h hB he => pre_fine hX hS h hB he fn pos
 refine yat.ctrl hI (fun w => ygd (pR6_1_at A) rfl (by simp [base]) rfl H.go rfl rfl) fun d => ?_
 replace hq := hq.at d
 replace hW : WgAt A.L.tWg Wg (w.at d) 0 0 := hW
 generalize w.at d = w at hq hW ⊢
 rw [show (#[Operand.tmp 6, Operand.tmp 19].map a.eval : Array Value) = #[.pointer (some ⟨Wg, 0, none⟩), body] by simp [e6, e19]]
 rw [show ((#[.pointer (some ⟨Wg, 0, none⟩), body] : Array Value) ++ Array.replicate ((goFn A).ntmps - (#[.pointer (some ⟨Wg, 0, none⟩), body] : Array Value).size) undef) = #[.pointer (some ⟨Wg, 0, none⟩), body, undef, undef, undef, undef, undef] from rfl]
 generalize hcs : (base A.fPulls).at a (.inRegion (pR6 A) [1] :: pK6 A) :: cs = cs1 at k ⊢
 have lt : Wg < w.heap.size := (Array.getElem?_eq_some_iff.1 hW).1
 refine yat.ctrl hI (fun _ => stepG_seq) fun d => ?_
 refine yat.ctrl hI (fun _ => stepG_region) fun d' => ?_
 replace hq := hq.at d'
 replace hW : WgAt A.L.tWg Wg (w.at d') 0 0 := hW
 rw [show (w.at d).at d' = w.at d' from rfl]
 replace lt : Wg < (w.at d').heap.size := lt
 generalize w.at d' = w at hq hW lt ⊢
 rw [show List.range (gR0 A).size = [0, 1] from rfl]
 -- the first box
 refine yat.bare hI hF hq rfl (qR6_1_at A) rfl rfl #[.pointer (some ⟨Wg, 0, none⟩)] (fr' := (base A.fGo).at ⟨#[.pointer (some ⟨Wg, 0, none⟩), body, .pointer (some ⟨w.heap.size, 0, none⟩), undef, undef, undef, undef], []⟩ (.inRegion (gR0 A) [1] :: gK A)) (fun d => ?_) fun w1 hw1 hq1 => ?_
 ·have := stepG_value (P := P) (main := true) (b := base A.fGo) (a := ⟨#[.pointer (some ⟨Wg, 0, none⟩), body, undef, undef, undef, undef, undef], []⟩) (k := gK A) (cs := cs1) (rest := [1]) (w := w.at d) (gR0_0_at A) rfl (by simp [base]) rfl
  refine (this.trans ?_)
  rw [show listed P (base A.fGo).fn ⟨#[.pointer (some ⟨Wg, 0, none⟩), body, undef, undef, undef, undef, undef], []⟩ (gR0_0 A) (w.at d) = #[] from yem _ _]
  rfl
 generalize hB1 : w.heap.size = B1 at *
 -- the second
 have hF1 := hF.mono (X' := fun b => X b ∨ b = B1) (fun b h => .inl h)
 have sz1 : w1.heap.size = B1 + 1 := by rw [hw1]; simp [hB1]
 have hW1 : WgAt A.L.tWg Wg w1 0 0 := by
  show w1.heap[Wg]? = _
  rw [hw1, Array.getElem?_push_lt (by omega), ← Array.getElem?_eq_getElem]; exact hW
 have hb1 : w1.heap[B1]? = some (.cells #[.pointer (some ⟨Wg, 0, none⟩)] A.L.tWgP (0, 0)) := by rw [hw1, ← hB1]; simp
 refine yat.bare hI hF1 hq1 rfl (qR6_2_at A) rfl rfl #[body] (fr' := (base A.fGo).at ⟨#[.pointer (some ⟨Wg, 0, none⟩), body, .pointer (some ⟨B1, 0, none⟩), .pointer (some ⟨w1.heap.size, 0, none⟩), undef, undef, undef], []⟩ (.inRegion (gR0 A) [] :: gK A)) (fun d => ?_) fun w2 hw2 hq => ?_
 ·have := stepG_value (P := P) (main := true) (b := base A.fGo) (a := ⟨#[.pointer (some ⟨Wg, 0, none⟩), body, .pointer (some ⟨B1, 0, none⟩), undef, undef, undef, undef], []⟩) (k := gK A) (cs := cs1) (rest := []) (w := w1.at d) (gR0_1_at A) rfl (by simp [base])
   (show (execOp _ (gR0_1 A)).run P (w1.at d) = .ok (.value (.pointer (some ⟨w1.heap.size, 0, none⟩))) { w1.at d with heap := w1.heap.push (.cells body.cells A.tF (0, 0)) } from rfl)
  rw [hbody] at this
  refine (this.trans ?_)
  rw [show listed P (base A.fGo).fn ⟨#[.pointer (some ⟨Wg, 0, none⟩), body, .pointer (some ⟨B1, 0, none⟩), undef, undef, undef, undef], []⟩ (gR0_1 A) (w1.at d) = #[] from yem _ _]
  rfl
 generalize hB2 : w1.heap.size = B2 at *
 have sz2 : w2.heap.size = B2 + 1 := by rw [hw2]; simp [hB2]
 have hW : Made A Wg B1 B2 body 0 w2 := by
  refine ⟨?_, ?_, ?_⟩
  ·show w2.heap[Wg]? = _
   rw [hw2, Array.getElem?_push_lt (by omega), ← Array.getElem?_eq_getElem]; exact hW1
  ·rw [hw2, Array.getElem?_push_lt (by omega), ← Array.getElem?_eq_getElem]; exact hb1
  ·rw [hw2, ← hB2]; simp
 clear hW1 hb1 hq1
 have s2 : B1 + 2 = w2.heap.size := by omega
 have hlt : Wg < B1 := lt
 have e12 : B2 = B1 + 1 := by omega
 clear hw2 hw1 sz1 sz2 hB1 hB2 lt
 generalize w2 = w at hq hW s2 ⊢
 refine yat.ctrl hI (fun _ => stepG_region_end) fun d => ?_
 replace hq := QAt.at hq d
 replace hW : Made A Wg B1 B2 body _ (w.at d) := ⟨hW.wg, hW.b1, hW.b2⟩
 replace s2 : B1 + 2 = (w.at d).heap.size := s2
 generalize w.at d = w at hq hW s2 ⊢
 refine yat.ctrl hI (fun _ => stepG_seq) fun d => ?_
 replace hq := QAt.at hq d
 replace hW : Made A Wg B1 B2 body _ (w.at d) := ⟨hW.wg, hW.b1, hW.b2⟩
 replace s2 : B1 + 2 = (w.at d).heap.size := s2
 generalize w.at d = w at hq hW s2 ⊢
 refine yat.ctrl hI (fun _ => stepG_region) fun d => ?_
 replace hq := QAt.at hq d
 replace hW : Made A Wg B1 B2 body _ (w.at d) := ⟨hW.wg, hW.b1, hW.b2⟩
 replace s2 : B1 + 2 = (w.at d).heap.size := s2
 generalize w.at d = w at hq hW s2 ⊢
 rw [show List.range (gR1 A).size = [0, 1] from rfl]
 refine yat.ctrlw hI (fun d => ymv (fn := goFn A) H.go rfl (by simp [base]) (gR1_0_at A) rfl rfl rfl H.wg.isAgg_tWgP (w := w.at d) hW.b1) fun d => ?_
 replace hq := hq.at d
 replace hW : Made A Wg B1 B2 body 0 (w.at d) := ⟨hW.wg, hW.b1, hW.b2⟩
 replace s2 : B1 + 2 = (w.at d).heap.size := s2
 generalize w.at d = w at hq hW s2 ⊢
 refine yat.ctrl hI (fun w => ygd (gR1_1_at A) rfl (by simp [base]) rfl H.wg.f_add rfl (show (addFn A.L).body = some (body_add A.L) from rfl)) fun d => ?_
 replace hq := hq.at d
 replace hW : Made A Wg B1 B2 body 0 (w.at d) := ⟨hW.wg, hW.b1, hW.b2⟩
 replace s2 : B1 + 2 = (w.at d).heap.size := s2
 generalize w.at d = w at hq hW s2 ⊢
 refine yat.cast (tm' := (List.toArray (.pointer (some ⟨Wg, 0, none⟩) :: .int .i64 1 :: List.replicate 115 undef))) ?_ ?_
 ·apply Array.toList_inj.1
  rw [Array.toList_append, Array.toList_replicate]
  simp only [List.map_toArray, List.map_cons, List.map_nil]
  rfl
 refine yat.addPos H.wg hc hWS hW.wg fun d => ?_
 replace hq := (hq.setX (a := stA Wg) (show (X Wg ∨ Wg = B1) ∨ Wg = B2 from .inl (.inl hX)) (.int .u64 KK)).at d
 replace hW : Made A Wg B1 B2 body KK ((w.setCell (stA Wg) (.int .u64 KK)).at d) := ⟨Go.ConcX.WgAt.setSt hW.wg KK, (yfj (a := stA Wg) (b := B1) (by show Wg ≠ B1; omega) _).trans hW.b1, (yfj (a := stA Wg) (b := B2) (by show Wg ≠ B2; omega) _).trans hW.b2⟩
 replace s2 : B1 + 2 = ((w.setCell (stA Wg) (.int .u64 KK)).at d).heap.size := s2.trans (by show w.heap.size = (w.setCell (stA Wg) (.int .u64 KK)).heap.size; simp [World.setCell])
 generalize (w.setCell (stA Wg) (.int .u64 KK)).at d = w at hq hW s2 ⊢
 refine yat.ctrl hI (fun _ => stepG_region_end) fun d => ?_
 replace hq := QAt.at hq d
 replace hW : Made A Wg B1 B2 body _ (w.at d) := ⟨hW.wg, hW.b1, hW.b2⟩
 replace s2 : B1 + 2 = (w.at d).heap.size := s2
 generalize w.at d = w at hq hW s2 ⊢
 refine yat.ctrl hI (fun _ => stepG_region) fun d => ?_
 replace hq := QAt.at hq d
 replace hW : Made A Wg B1 B2 body _ (w.at d) := ⟨hW.wg, hW.b1, hW.b2⟩
 replace s2 : B1 + 2 = (w.at d).heap.size := s2
 generalize w.at d = w at hq hW s2 ⊢
 rw [show List.range (gR2 A).size = [0, 1] from rfl]
 refine yat.ctrl hI (cs' := cs1) (fr' := (base A.fGo).at (yrh A Wg B1 B2 body) [.inRegion (gR2 A) [1]]) (fun w => ?_) fun d => ?_
 ·refine (stepG_value (P := P) (main := true) (rest := [1]) (gR2_0_at A) rfl (by simp [base]) rfl).trans ?_
  unfold listed
  rw [show (execOp _ (gR2_0 A)).events P w #[] = #[] from rfl, yem]
  simp only [List.map_toArray, List.map_cons, List.map_nil]
  rfl
 exact k (w.at d) B1 B2 (by show B1 = w.heap.size - 2; omega) (by show B2 = w.heap.size - 1; omega) hlt (by omega) ⟨hW.wg, hW.b1, hW.b2⟩ (hq.at d)
end
end Go.Sim

namespace Go.Sim
open Go.Conc Go.RowKit Go.Conc.Lib Go.ConcX.Gen
open Go.ConcX (WgAt wgBlock stA smA KK rd wr mk DC0)
section
variable {P : Program} {A : PL} {m : Bool} {K : World → Prop} {S : Goroutine → World → Prop} {n : Nat} {w : World} {cs : List Frame}
theorem Wk.step {g g' : Goroutine} (hr : g.status = .running) (hst : ∀ w, K w → stepG P m g w = .go g' w #[]) (h : Wk P m K S n g') : Wk P m K S (n + 1) g :=
 fun w => Goes.step hr fun w₁ h₁ => by
  rw [hst w₁ h₁, goes_go]
  exact ⟨⟨rfl, rfl⟩, h w₁⟩
theorem Wk.c {fr fr' : Frame} {cs cs' : List Frame} (hst : ∀ w, stepG P m (gor fr cs) w = .go (gor fr' cs') w #[]) (h : Wk P m K S n (gor fr' cs')) : Wk P m K S (n + 1) (gor fr cs) := Wk.step rfl (fun w _ => hst w) h
theorem Wk.stop {g : Goroutine} (h : ∀ w, K w → S g w) : Wk P m K S n g := fun _ => Goes.stop fun w₁ h₁ => h w₁ h₁
theorem Wk.rd {X : Nat → Prop} : ∀ {n : Nat} {g : Goroutine} (w : World), Wk P m K S n g → Goes P m (RK K) (DRd X) S n g w
 |0, g, w, h => h w
 |n + 1, g, w, h => by
  rcases h w with q | ⟨hr, q⟩
  ·exact .inl q
  ·refine .inr ⟨hr, fun w₁ h₁ => ?_⟩
   have := q w₁ h₁
   cases hs : stepG P m g w₁ with
   |go g' w' es =>
    rw [hs, goes_go] at this
    obtain ⟨⟨rfl, rfl⟩, hg⟩ := this
    exact ⟨⟨rfl, by simp⟩, Wk.rd w' (Wk.of hg)⟩
   |_ => rw [hs] at this; exact this.elim
theorem Wk.cast {b : Frame} {tm tm' : Array Value} {df : List Deferred} {k : List Item} (h : tm = tm') (hs : Wk P m K S n (gor (b.at ⟨tm', df⟩ k) cs)) : Wk P m K S n (gor (b.at ⟨tm, df⟩ k) cs) := h ▸ hs
theorem yhk {b : Frame} {a : Act} {ops : Array Oper} {i : Nat} {rest : List Nat} {k : List Item} {o : Oper} {x : Value} (hk : b.kind ≠ .early) (ho : ops[i]? = some o) (hg : o.guard = none) (hr : (execOp a.eval o).run P w = .ok (.value x) w) (he : (execOp a.eval o).events P w #[] = #[]) :
  stepG P m (gor (b.at a (.inRegion ops (i :: rest) :: k)) cs) w = .go (gor (b.at (a.put o.dst x) (.inRegion ops rest :: k)) cs) w #[] := by
 have := stepG_value (P := P) (main := m) (b := b) (a := a) (k := k) (cs := cs) (rest := rest) ho (ygi hg _) hk hr
 rw [show gor (b.at a (.inRegion ops (i :: rest) :: k)) cs = G (b.at a (.inRegion ops (i :: rest) :: k)) cs from rfl, this]
 unfold listed
 rw [he, yem]
 rfl
theorem ykd {b : Frame} {a : Act} {ops : Array Oper} {i : Nat} {rest : List Nat} {k : List Item} {o : Oper} {p : Operand} {x : Value} (hk : b.kind ≠ .early) (ho : ops[i]? = some o) (hg : o.guard = none) (hop : o.op = .move p ∨ o.op = .assign p) (hp : a.eval p = x) :
  stepG P m (gor (b.at a (.inRegion ops (i :: rest) :: k)) cs) w = .go (gor (b.at (a.put o.dst x) (.inRegion ops rest :: k)) cs) w #[] := by
 subst hp
 refine yhk hk ho hg ?_ ?_
 all_goals
  unfold execOp
  rcases hop with h | h <;> rw [h] <;> rfl
theorem ynv {b b₀ : Frame} {a a₀ : Act} {todo k : List Item} {ops : Array Oper} {i : Nat} {rest : List Nat} {fn : Func} (hn : b.kind = .normal) (hd : a.defers = []) (hf : P.funcs[b.fn]? = some fn) (hr : fn.results = #[]) :
  stepG P m (gor { b.at a todo with mode := .returning } (b₀.at a₀ (.inRegion ops (i :: rest) :: k) :: cs)) w = .go (gor (b₀.at (a₀.put ((ops[i]?).bind (·.dst)) (.tuple #[])) (.inRegion ops rest :: k)) cs) w #[] :=
 ysa (goes_leave0 hn hd hf hr ⟨rfl, rfl, rfl⟩)
def actW (a : Act) : Act := (((a.put (some 20) (.tuple #[])).put (some 21) (.int .i64 1)).put (some 14) (.int .i64 1)).put (some 15) (.bool false)
def pulls8 (A : PL) (a : Act) : Frame := (base A.fPulls).at a [.inRegion (pR8 A) [0], .code (qK9 A)]
theorem callerWalk (H : yyy P A) {Wg : Nat} {a : Act} (h24 : 24 ≤ a.tmps.size) (e6 : a.eval (.tmp 6) = .pointer (some ⟨Wg, 0, none⟩)) (e13 : a.eval (.tmp 13) = .int .i64 1) (e14 : a.eval (.tmp 14) = .int .i64 0) (ag : Act) (hag : ag.defers = []) :
  Wk P true (Ka A.L.tWg Wg) (SKd P A.L.tWg Wg (yti A.L Wg (pulls8 A (actW a)) cs)) 23 (gor ((base A.fGo).at ag [.inRegion (gR2 A) []]) ((base A.fPulls).at a (.inRegion (pR6 A) [1] :: pK6 A) :: cs)) := by
 refine Wk.c (fun _ => stepG_region_end) ?_
 refine Wk.c (fun _ => stepG_end) ?_
 refine Wk.c (fun _ => ynv rfl hag H.go rfl) ?_
 refine Wk.c (fun _ => stepG_region_end) ?_
 refine Wk.c (fun _ => stepG_inBlock) ?_
 refine Wk.c (fun _ => stepG_region) ?_
 rw [show List.range (pR7 A).size = [0, 1] from rfl, show ((pR6 A)[1]?).bind (·.dst) = some 20 from rfl]
 have f14 : (a.put (some 20) (.tuple #[])).eval (.tmp 14) = .int .i64 0 := by rw [yae (by decide), e14]
 have f13 : (a.put (some 20) (.tuple #[])).eval (.tmp 13) = .int .i64 1 := by rw [yae (by decide), e13]
 have f6 : (a.put (some 20) (.tuple #[])).eval (.tmp 6) = .pointer (some ⟨Wg, 0, none⟩) := by rw [yae (by decide), e6]
 refine Wk.c (fun w => yhk (x := .int .i64 1) (by simp [base]) (pR7_0_at A) rfl ?_ ?_) ?_
 ·simp only [execOp, pR7_0, f14]
  rfl
 ·simp only [execOp, pR7_0, f14]
  rfl
 have s1 : 24 ≤ ((a.put (some 20) (.tuple #[])).put (pR7_0 A).dst (.int .i64 1)).tmps.size := by simpa using h24
 refine Wk.c (fun w => ykd (x := .int .i64 1) (by simp [base]) (pR7_1_at A) rfl (.inl rfl) (yaj (d := 21) (by simp; omega) _)) ?_
 refine Wk.c (fun _ => stepG_region_end) ?_
 refine Wk.c (fun _ => stepG_inLoop) ?_
 refine Wk.c (fun _ => stepG_seq) ?_
 refine Wk.c (fun _ => stepG_region) ?_
 rw [show List.range (pR4 A).size = [0] from rfl]
 dsimp only [pR7_0, pR7_1]
 have g14 : (((a.put (some 20) (.tuple #[])).put (some 21) (.int .i64 1)).put (some 14) (.int .i64 1)).eval (.tmp 14) = .int .i64 1 := yaj (by simp; omega) _
 have g13 : (((a.put (some 20) (.tuple #[])).put (some 21) (.int .i64 1)).put (some 14) (.int .i64 1)).eval (.tmp 13) = .int .i64 1 := by rw [yae (by decide), yae (by decide), f13]
 have g6 : (((a.put (some 20) (.tuple #[])).put (some 21) (.int .i64 1)).put (some 14) (.int .i64 1)).eval (.tmp 6) = .pointer (some ⟨Wg, 0, none⟩) := by rw [yae (by decide), yae (by decide), f6]
 refine Wk.c (fun w => yhk (x := .bool false) (by simp [base]) (yuv A) rfl ?_ ?_) ?_
 ·simp only [execOp, pR4_0, g14, g13]
  rfl
 ·simp only [execOp, pR4_0, g14, g13]
  rfl
 refine Wk.c (fun _ => stepG_region_end) ?_
 refine Wk.c (fun _ => stepG_seq) ?_
 refine Wk.c (fun _ => stepG_cond (t := false) (yaj (d := 15) (by simp; omega) _)) ?_
 refine Wk.c (fun _ => stepG_exit rfl) ?_
 refine Wk.c (fun _ => stepG_seq) ?_
 refine Wk.c (fun _ => stepG_region) ?_
 rw [show List.range (pR8 A).size = [0] from rfl]
 dsimp only [pR4_0]
 refine Wk.c (fun w => ygd (pR8_0_at A) rfl (by simp [base]) rfl H.wg.f_wait rfl (show (waitFn A.L).body = some (body_wait A.L) from rfl)) ?_
 refine Wk.cast (tm' := (List.toArray (.pointer (some ⟨Wg, 0, none⟩) :: List.replicate 83 undef))) ?_ ?_
 ·apply Array.toList_inj.1
  rw [Array.toList_append, Array.toList_replicate]
  simp only [List.map_toArray, List.map_cons, List.map_nil]
  rw [yae (by decide), g6]
  rfl
 exact waitStart (b₀ := base A.fPulls) (a₀ := actW a) (ops₀ := pR8 A) (i₀ := 0) (rest₀ := []) (k₀ := [.code (qK9 A)]) (cs := cs) H.wg
end
end Go.Sim

namespace Go.Sim
open Go.Conc Go.RowKit Go.Conc.Lib Go.ConcX.Gen
open Go.ConcX (WgAt wgBlock stA smA KK rd wr mk DC0)
def yrw (P : Program) : Frame := { (default : Frame) with fn := P.funcs.size, defers := [], mode := .panicking [goexitEntry] }
def ycy (b : Nat) : Value := .pointer (some ⟨b, 0, none⟩)
def dGo (A : PL) (B1 B2 : Nat) : Deferred := { target := .fn (.func A.fGo1) #[ycy B1, ycy B2], args := #[] }
def ypa (A : PL) (B1 : Nat) : Deferred := { target := .fn (.func A.fGo11) #[ycy B1], args := #[] }
def ywt (A : PL) (B1 B2 : Nat) (body : Value) : Frame := (baseD A.fGo1).at ⟨#[ycy B1, ycy B2, .func (.func A.fGo11) #[] #[ycy B1], body, undef], [ypa A B1]⟩ [.inRegion (hR1 A) [1]]
section
variable {P : Program} {A : PL} {K : World → Prop} {S : Goroutine → World → Prop} {n : Nat} {w : World} {cs : List Frame} {B1 B2 Wg : Nat} {body : Value}
theorem spawn_now (a : Nat) (w : World) : stepG P true (gor ((base A.fGo).at (yrh A Wg B1 B2 body) [.inRegion (gR2 A) [1]]) cs) w = .spawn (gor ((base A.fGo).at (yrh A Wg B1 B2 body) [.inRegion (gR2 A) []]) cs) (born P (dGo A B1 B2)) w #[] := by
 have hr : (execOp (yrh A Wg B1 B2 body).eval (gR2_1 A)).run P w = .ok (.spawn (dGo A B1 B2)) w := by
  simp [execOp, gR2_1, resolve, Deferred.ofValue, yrh, Act.eval, dGo, ycy]
 refine (stepG_spawn (P := P) (main := true) (b := base A.fGo) (a := yrh A Wg B1 B2 body) (k := []) (cs := cs) (rest := []) (gR2_1_at A) rfl (by simp [base]) hr rfl).trans ?_
 unfold listed
 rw [show (execOp (yrh A Wg B1 B2 body).eval (gR2_1 A)).events P w #[] = #[] by simp [execOp, gR2_1, resolve, Deferred.ofValue, yrh, Act.eval], yem]
 rfl
theorem born_step (H : yyy P A) (w : World) : stepG P false (born P (dGo A B1 B2)) w = .go (gor ((baseD A.fGo1).at ⟨#[ycy B1, ycy B2, undef, undef, undef], []⟩ [.code (go1Code A)]) [yrw P]) w #[] := by
 simp [born, dGo, stepG, unwind, callDeferred, invoke, callFunc, H.go1, go1Fn, seen, GStep.after, gor, Frame.enter, Frame.at, baseD, yrw]
theorem defer_step (w : World) {k : List Item} : stepG P false (gor ((baseD A.fGo1).at ⟨#[ycy B1, ycy B2, .func (.func A.fGo11) #[] #[ycy B1], undef, undef], []⟩ (.inRegion (hR0 A) [1] :: k)) cs) w =
  .go (gor ((baseD A.fGo1).at ⟨#[ycy B1, ycy B2, .func (.func A.fGo11) #[] #[ycy B1], undef, undef], [ypa A B1]⟩ (.inRegion (hR0 A) [] :: k)) cs) w #[] := by
 have hr : (execOp (Act.eval ⟨#[ycy B1, ycy B2, .func (.func A.fGo11) #[] #[ycy B1], undef, undef], []⟩) (hR0_1 A)).run P w = .ok (.defer (ypa A B1)) w := by
  simp [execOp, hR0_1, resolve, Deferred.ofValue, Act.eval, ypa, ycy]
 have he : (execOp (Act.eval ⟨#[ycy B1, ycy B2, .func (.func A.fGo11) #[] #[ycy B1], undef, undef], []⟩) (hR0_1 A)).events P w #[] = #[] := by
  simp [execOp, hR0_1, resolve, Deferred.ofValue, Act.eval]
 have hfin : ((baseD A.fGo1).at ⟨#[ycy B1, ycy B2, .func (.func A.fGo11) #[] #[ycy B1], undef, undef], [ypa A B1]⟩ (.inRegion (hR0 A) [1] :: k)).finish undef = (baseD A.fGo1).at ⟨#[ycy B1, ycy B2, .func (.func A.fGo11) #[] #[ycy B1], undef, undef], [ypa A B1]⟩ (.inRegion (hR0 A) [] :: k) := rfl
 refine (stepG_oper (P := P) (hR0_1_at A) rfl).trans ?_
 rw [← hfin]
 simp [stepG.apply, hr, he, Frame.at, baseD, GStep.after, yem, gor]
theorem enter_dyn (hB : Owns P A.fBody) {caps : Array Value} (hbody : body = .func (.func A.fBody) #[] caps) (w : World) : stepG P false (gor (ywt A B1 B2 body) cs) w = .go (gor (Frame.enter P A.fBody caps .normal) (ywt A B1 B2 body :: cs)) w #[] := by
 have hr : (execOp (Act.eval ⟨#[ycy B1, ycy B2, .func (.func A.fGo11) #[] #[ycy B1], body, undef], [ypa A B1]⟩) (hR1_1 A)).run P w = .ok (.enter A.fBody caps) w := by
  subst hbody
  have := yer hB caps w
  simp [execOp, hR1_1, resolve, Deferred.ofValue, Act.eval, invoke, this]
 have he : (execOp (Act.eval ⟨#[ycy B1, ycy B2, .func (.func A.fGo11) #[] #[ycy B1], body, undef], [ypa A B1]⟩) (hR1_1 A)).events P w #[] = #[] := by
  subst hbody
  have ev : (callFunc A.fBody caps).events P w #[] = #[] := congrArg Prod.snd (ymb hB caps w #[])
  simp [execOp, hR1_1, resolve, Deferred.ofValue, Act.eval, invoke, ev]
 refine (stepG_enter (P := P) (main := false) (rest := []) (k := []) (cs := cs) (hR1_1_at A) rfl (by simp [baseD]) hr).trans ?_
 unfold listed
 rw [he, yem]
 rfl
theorem childFirst (H : yyy P A) (hB : Owns P A.fBody) {caps : Array Value} (hbody : body = .func (.func A.fBody) #[] caps) (hK : ∀ w, K w → w.heap[B2]? = some (.cells #[body] A.tF (0, 0))) :
  Wk P false K (fun g _ => g = gor (Frame.enter P A.fBody caps .normal) [ywt A B1 B2 body, yrw P]) 10 (born P (dGo A B1 B2)) := by
 refine Wk.step rfl (fun w _ => born_step H w) ?_
 refine Wk.c (fun _ => stepG_seq) ?_
 refine Wk.c (fun _ => stepG_region) ?_
 rw [show List.range (hR0 A).size = [0, 1] from rfl]
 refine Wk.c (fr' := (baseD A.fGo1).at ⟨#[ycy B1, ycy B2, .func (.func A.fGo11) #[] #[ycy B1], undef, undef], []⟩ [.inRegion (hR0 A) [1], .code (Code.region 1 (hR1 A) false)]) (cs' := [yrw P]) (fun w => ?_) ?_
 ·refine (yhk (x := .func (.func A.fGo11) #[] #[ycy B1]) (by simp [baseD]) (hR0_0_at A) rfl ?_ ?_).trans rfl
  ·simp [execOp, hR0_0, Instr.makeFunc, Act.eval]
  ·simp [execOp, hR0_0, Instr.makeFunc, Act.eval]
 refine Wk.c (fun w => defer_step w) ?_
 refine Wk.c (fun _ => stepG_region_end) ?_
 refine Wk.c (fun _ => stepG_region) ?_
 rw [show List.range (hR1 A).size = [0, 1] from rfl]
 refine Wk.step (g' := gor (ywt A B1 B2 body) [yrw P]) rfl (fun w hw => ?_) ?_
 ·exact ymv (fn := go1Fn A) H.go1 rfl (by simp [baseD]) (hR1_0_at A) rfl rfl rfl H.isAgg_tF (hK w hw)
 refine Wk.c (fun w => enter_dyn hB hbody w) ?_
 exact Wk.stop fun _ _ => rfl
/-! ### the last yik -/
def go1R (A : PL) (B1 B2 : Nat) (body x : Value) (ds : List Deferred) : Frame := { (baseD A.fGo1).at ⟨#[ycy B1, ycy B2, .func (.func A.fGo11) #[] #[ycy B1], body, x], ds⟩ [] with mode := .returning }
def ysf (A : PL) (B1 Wg : Nat) : Frame := (baseD A.fGo11).at ⟨#[ycy B1, .nilIface, .nilIface, .nilIface, .bool false, undef, ycy Wg, undef], []⟩ [.inRegion (kR3 A) [1]]
def yiz (L : WgLink) : Array Oper := #[⟨some 2, .move (.tmp 0), L.tWgP, "waitgroup.go:156", #[], none⟩, ⟨some 3, .call ⟨.value (.func L.add), #[.tmp 2, .const (.int .i64 (-1))], #[L.tWgP, 3]⟩, 0, "waitgroup.go:156", #[⟨0, .data⟩], none⟩]
def doneAt (L : WgLink) (Wg : Nat) : Frame := (base L.done).at ⟨#[ycy Wg, undef, ycy Wg, undef], []⟩ [.inRegion (yiz L) [1]]
theorem unwind_step (H : yyy P A) {x : Value} (w : World) : stepG P false (gor (go1R A B1 B2 body x [ypa A B1]) cs) w = .go (gor ((baseD A.fGo11).at ⟨#[ycy B1, undef, undef, undef, undef, undef, undef, undef], []⟩ [.code (go11Code A)]) (go1R A B1 B2 body x [] :: cs)) w #[] := by
 simp [go1R, ypa, stepG, unwind, callDeferred, invoke, callFunc, H.go11, go11Fn, seen, GStep.after, gor, Frame.enter, Frame.at, baseD]
theorem yxv {x : Value} {k : List Item} (w : World) : stepG P false (gor ((baseD A.fGo11).at ⟨#[ycy B1, undef, undef, undef, undef, undef, undef, undef], []⟩ (.inRegion (kR0 A) [0, 1] :: k)) (go1R A B1 B2 body x [] :: cs)) w =
  .go (gor ((baseD A.fGo11).at ⟨#[ycy B1, undef, .nilIface, undef, undef, undef, undef, undef], []⟩ (.inRegion (kR0 A) [1] :: k)) (go1R A B1 B2 body x [] :: cs)) w #[] := by
 have hr : (execOp (Act.eval ⟨#[ycy B1, undef, undef, undef, undef, undef, undef, undef], []⟩) (kR0_0 A)).run P w = .ok .recover w := by
  simp [execOp, kR0_0, resolve, invoke, builtin]
 have he : (execOp (Act.eval ⟨#[ycy B1, undef, undef, undef, undef, undef, undef, undef], []⟩) (kR0_0 A)).events P w #[] = #[] := by
  simp [execOp, kR0_0, resolve, invoke, builtin]
 have hfin : ((baseD A.fGo11).at ⟨#[ycy B1, undef, undef, undef, undef, undef, undef, undef], []⟩ (.inRegion (kR0 A) [0, 1] :: k)).finish .nilIface = (baseD A.fGo11).at ⟨#[ycy B1, undef, .nilIface, undef, undef, undef, undef, undef], []⟩ (.inRegion (kR0 A) [1] :: k) := rfl
 refine (stepG_oper (P := P) (kR0_0_at A) rfl).trans ?_
 rw [← hfin]
 simp [stepG.apply, hr, he, Frame.at, baseD, GStep.after, yem, gor, tryRecover, go1R]
theorem nil_equal {t : Nat} {ms : _} (hE : ∀ w, (underlying t).run P w = .ok (.interface ms) w) (d : Nat) (w : World) : (Op.equalIn (d + 1) t .nilIface .nilIface).run P w = .ok true w := by
 rw [Op.equalIn]
 simp only [Sem.run_bind, hE, Result.andThen]
 rfl
theorem nil_events {t : Nat} {ms : _} (hE : ∀ w, (underlying t).run P w = .ok (.interface ms) w) (d : Nat) (w : World) : (Op.equalIn (d + 1) t .nilIface .nilIface).events P w #[] = #[] := by
 rw [Op.equalIn]
 simp only [Sem.events_bind, hE, Result.evThen, events_underlying]
 rfl
theorem neq_step (H : yyy P A) {k : List Item} (w : World) : stepG P false (gor ((baseD A.fGo11).at ⟨#[ycy B1, .nilIface, .nilIface, .nilIface, undef, undef, undef, undef], []⟩ (.inRegion (kR1 A) [1] :: k)) cs) w =
  .go (gor ((baseD A.fGo11).at ⟨#[ycy B1, .nilIface, .nilIface, .nilIface, .bool false, undef, undef, undef], []⟩ (.inRegion (kR1 A) [] :: k)) cs) w #[] := by
 obtain ⟨ms, hE⟩ := H.under_tE
 have h1 : (Op.equal A.tE .nilIface .nilIface).run P w = .ok true w := nil_equal hE 9999 w
 have h2 : (Op.equal A.tE .nilIface .nilIface).events P w #[] = #[] := nil_events hE 9999 w
 have hx : execOp (Act.eval ⟨#[ycy B1, .nilIface, .nilIface, .nilIface, undef, undef, undef, undef], []⟩) (kR1_1 A) = (do pure (.value (← (do pure (.bool (!(← Op.equal A.tE .nilIface .nilIface))))))) := rfl
 refine (yhk (x := .bool false) (by simp [baseD]) (kR1_1_at A) rfl ?_ ?_).trans rfl
 ·rw [hx]
  simp only [Sem.run_bind, h1, Result.andThen]
  rfl
 ·rw [hx]
  simp only [Sem.events_bind, h1, h2, Result.evThen, Sem.run_bind, Result.andThen]
  rfl
theorem childLast (H : yyy P A) (x : Value) (hK : ∀ w, K w → w.heap[B1]? = some (.cells #[ycy Wg] A.L.tWgP (0, 0))) :
  Wk P false K (fun g _ => g = gor ((base A.L.add).at ⟨(List.toArray (ycy Wg :: .int .i64 (-1) :: List.replicate 115 undef)), []⟩ [.code (body_add A.L)]) [doneAt A.L Wg, ysf A B1 Wg, go1R A B1 B2 body x [], yrw P]) 30 (gor ((ywt A B1 B2 body).finish x) [yrw P]) := by
 rw [show (ywt A B1 B2 body).finish x = (baseD A.fGo1).at ⟨#[ycy B1, ycy B2, .func (.func A.fGo11) #[] #[ycy B1], body, x], [ypa A B1]⟩ [.inRegion (hR1 A) []] from rfl]
 refine Wk.c (fun _ => stepG_region_end) ?_
 refine Wk.c (fun _ => stepG_end) ?_
 refine Wk.c (fun w => unwind_step H w) ?_
 refine Wk.c (fun _ => stepG_seq) ?_
 refine Wk.c (fun _ => stepG_seq) ?_
 refine Wk.c (fun _ => stepG_region) ?_
 rw [show List.range (kR0 A).size = [0, 1] from rfl]
 refine Wk.c (fun w => yxv w) ?_
 refine Wk.c (fun w => ykd (x := .nilIface) (by simp [baseD]) (kR0_1_at A) rfl (.inr rfl) rfl) ?_
 refine Wk.c (fun _ => stepG_region_end) ?_
 refine Wk.c (fun _ => stepG_seq) ?_
 refine Wk.c (fun _ => stepG_region) ?_
 rw [show List.range (kR1 A).size = [0, 1] from rfl]
 refine Wk.c (fun w => ykd (x := .nilIface) (by simp [baseD]) (kR1_0_at A) rfl (.inl rfl) rfl) ?_
 refine Wk.c (fun w => neq_step H w) ?_
 refine Wk.c (fun _ => stepG_region_end) ?_
 refine Wk.c (fun _ => stepG_cond (t := false) rfl) ?_
 refine Wk.c (fun _ => stepG_skip) ?_
 refine Wk.c (fun _ => stepG_region) ?_
 rw [show List.range (kR3 A).size = [0, 1] from rfl]
 refine Wk.step (g' := gor (ysf A B1 Wg) (go1R A B1 B2 body x [] :: [yrw P])) rfl (fun w hw => ?_) ?_
 ·exact ymv (fn := go11Fn A) H.go11 rfl (by simp [baseD]) (kR3_0_at A) rfl rfl rfl H.wg.isAgg_tWgP (hK w hw)
 refine Wk.c (fun w => ygd (kR3_1_at A) rfl (by simp [baseD]) rfl H.wg.f_done rfl (show (doneFn A.L).body = some (Code.region 0 (yiz A.L) false) from rfl)) ?_
 refine Wk.cast (tm' := #[ycy Wg, undef, undef, undef]) ?_ ?_
 ·simp only [List.map_toArray, List.map_cons, List.map_nil]
  rfl
 refine Wk.c (fun _ => stepG_region) ?_
 rw [show List.range (yiz A.L).size = [0, 1] from rfl]
 refine Wk.c (fr' := doneAt A.L Wg) (cs' := [ysf A B1 Wg, go1R A B1 B2 body x [], yrw P]) (fun w => (ykd (x := ycy Wg) (by simp [base]) (show (yiz A.L)[0]? = some _ from rfl) rfl (.inl rfl) rfl).trans rfl) ?_
 refine Wk.c (fun w => ygd (show (yiz A.L)[1]? = some _ from rfl) rfl (by simp [base]) rfl H.wg.f_add rfl (show (addFn A.L).body = some (body_add A.L) from rfl)) ?_
 refine Wk.cast (tm' := (List.toArray (ycy Wg :: .int .i64 (-1) :: List.replicate 115 undef))) ?_ ?_
 ·apply Array.toList_inj.1
  rw [Array.toList_append, Array.toList_replicate]
  simp only [List.map_toArray, List.map_cons, List.map_nil]
  rfl
 exact Wk.stop fun _ _ => rfl
end
end Go.Sim

namespace Go.Sim
open Go.Conc Go.RowKit Go.Conc.Lib Go.ConcX.Gen
open Go.ConcX (WgAt wgBlock stA smA KK rd wr mk DC0)
section
variable {P : Program} {A : PL} {B1 B2 Wg : Nat} {body x : Value}
theorem childQuits (H : yyy P A) : QuitsD P 9 0 (G ((base A.L.done).at (Act.put ⟨#[ycy Wg, undef, ycy Wg, undef], []⟩ (((yiz A.L)[1]?).bind (·.dst)) (.tuple #[])) [.inRegion (yiz A.L) []]) [ysf A B1 Wg, go1R A B1 B2 body x [], yrw P]) := by
 refine QuitsD.ctl rfl (fun w => stepG_region_end) ?_
 refine QuitsD.ctl rfl (fun w => stepG_end) ?_
 refine QuitsD.ctl rfl (fun w => ynv rfl rfl H.wg.f_done rfl) ?_
 refine QuitsD.ctl rfl (fun w => stepG_region_end) ?_
 refine QuitsD.ctl rfl (fun w => stepG_end) ?_
 refine QuitsD.ctl (g' := gor (go1R A B1 B2 body x []) [yrw P]) rfl (fun w => ?_) ?_
 ·simp [G, gor, stepG, unwind, doReturn, results, Frame.at, baseD, go1R, yrw, H.go11, go11Fn, seen, GStep.after, goexitEntry]
 refine QuitsD.ctl (g' := gor (yrw P) []) rfl (fun w => ?_) ?_
 ·simp [gor, stepG, unwind, doReturn, results, Frame.at, baseD, go1R, yrw, H.go1, go1Fn, seen, GStep.after, goexitEntry]
 refine QuitsD.ctl (g' := { gor (yrw P) [] with status := .finished }) rfl (fun w => ?_) (.inl ⟨rfl, rfl⟩)
 simp [gor, stepG, unwind, yrw, goexitEntry, Frame.catches]
 rfl
end
section
variable {P Q : Program} {Stop : Frame → World → Prop} {Done : Array Goroutine → World → Trace → Prop} {c : Nat} {s0 : Org} {X : Nat → Prop} {I : Trace → Nat → Prop} {w : World} {inner inner' cs : List Frame}
theorem QAt.ctrlI {fr fr' : Frame} (hm : fr.mode = .run ∨ inner ≠ []) (hstep : ∀ v, stepG Q true (gor fr (inner ++ [ydu])) v = .go (gor fr' (inner' ++ [ydu])) v #[]) (h : QAt Q Stop s0 X w fr inner) : QAt Q Stop s0 X w fr' inner' := by
 obtain ⟨v, hb, hs, hK⟩ := h
 rcases hb.1.cases' with ⟨hr, hi, _⟩ | hn
 ·have hr : fr.mode = .returning := hr
  have hi : inner = [] := hi
  rcases hm with hm | hm
  ·rw [hr] at hm; cases hm
  ·exact absurd hi hm
 ·obtain ⟨s', hn, ht⟩ := hn (ybt w v.drawn)
  have hb' := hb.next hn ht
  obtain ⟨⟨es, e⟩, hok⟩ := hn
  rw [hstep] at e
  simp only [GStep.go.injEq] at e
  obtain ⟨hg, hv, _⟩ := e
  obtain ⟨hf, hi⟩ := ykt hg
  have hi2 := List.append_cancel_right hi
  clear hi
  obtain ⟨f', i', v'⟩ := s'
  simp only at hf hi2 hv
  subst hf hi2 hv
  exact ⟨_, hb', hs.tp, hK⟩
theorem QAt.call {b : Frame} {a : Act} {ops : Array Oper} {i : Nat} {rest : List Nat} {k : List Item} {o : Oper} {f : FuncId} {fn : Func} {args : Array Operand} {ats : Array TypeId} (h : QAt Q Stop s0 X w (b.at a (.inRegion ops (i :: rest) :: k)) inner)
  (ho : ops[i]? = some o) (hg : o.guard = none) (hk : b.kind ≠ .early) (hop : o.op = .call { callee := .value (.func f), args, argTypes := ats }) (hf : Q.funcs[f]? = some fn) (hname : (fn.name == "runtime.NumGoroutine") = false) (hb : fn.body.isNone = false) :
  QAt Q Stop s0 X w (Frame.enter Q f (args.map a.eval) .normal) (b.at a (.inRegion ops (i :: rest) :: k) :: inner) := by
 refine h.ctrlI (.inl rfl) fun v => ?_
 refine (stepG_enter (P := Q) (main := true) (rest := rest) (k := k) (cs := inner ++ [ydu]) ho (ygi hg _) hk (run_call_body hop hf hname hb)).trans ?_
 unfold listed
 rw [events_call_body hop hf hname hb, yem]
 rfl
theorem yat.wk (hI : ydc c I) {gR : Goroutine} (hR : gR.status = .running) : ∀ (m : Nat) (a : Goroutine) (w : World), Wk P true KT (fun g _ => g = gR) m a → (∀ w', AtRel w w' → yat P Done c I gR w') → yat P Done c I a w := by
 intro m
 induction m with
 |zero =>
  intro a w h k
  rcases h.cases (w := w) trivial with q | ⟨n', _, e, _⟩
  ·subst q; exact k w (atRel_refl w)
  ·cases e
 |succ m ih =>
  intro a w h k
  by_cases e : a = gR
  ·subst e; exact k w (atRel_refl w)
  ·refine yat.step (I' := I) hI (h.running (fun g w hg => ?_) (w := w) trivial) fun d => ?_
   ·subst hg; exact hR
   ·rcases h.cases (w := w.at d) trivial with q | ⟨n', g', en, hst, hw'⟩
    ·exact absurd q e
    ·obtain rfl : m = n' := by omega
     refine ⟨g', _, _, hst, fun T fn pos hT => ?_, ih g' _ hw' fun w' hw => k w' (atRel_trans _ _ _ ⟨d, rfl⟩ hw)⟩
     rw [yuu]; exact hT
end
end Go.Sim

namespace Go.Sim
open Go.Conc Go.RowKit Go.Conc.Lib Go.ConcX.Gen
open Go.ConcX (WgAt wgBlock stA smA KK rd wr mk DC0)
section
variable {P : Program} {A : PL} {Stop : Frame → World → Prop} {c : Nat} {s0 : Org} {X : Nat → Prop} {w : World} {Z D : Nat → Prop} {ok2 : Op → Bool} {Rr2 Z2 D2 E2 : Nat → Prop}
theorem stageE (H : yyy P A) (T : yqz P (twin P A) (ydo (twin P A)) (fun _ => True) Z D yca) {Done : Array Goroutine → World → Trace → Prop} {I : Trace → Nat → Prop} (hI : ydc c I) (hF : yfq X I) {aP aQ : Act} (hsP : 24 ≤ aP.tmps.size) (hsQ : 24 ≤ aQ.tmps.size) (hdP : aP.defers = []) (hdQ : aQ.defers = []) (e5 : aP.eval (.tmp 5) = aQ.eval (.tmp 5)) {cf : Frame} {inner : List Frame}
  (hq : QAt (twin P A) Stop s0 X w ((base A.fPulls).at aQ [.inRegion (qR6 A) [], .code (qK9 A)]) (cf :: inner))
  (k : ∀ y w', QAt (twin P A) Stop s0 X w' (cf.finish y) inner → yat P Done c I (gor (cf.finish y) inner) w') :
  yat P Done c I (gor ((base A.fPulls).at aP [.inRegion (pR8 A) [], .code (qK9 A)]) (cf :: inner)) w := by
 replace hq := hq.regionEnd.seq.region
 rw [show List.range (pR9 A).size = [0, 1] from rfl] at hq
 refine yat.ctrl hI (fun _ => stepG_region_end) fun d => ?_
 replace hq := QAt.at hq d
 generalize w.at d = w at hq ⊢
 refine yat.ctrl hI (fun _ => stepG_seq) fun d => ?_
 replace hq := QAt.at hq d
 generalize w.at d = w at hq ⊢
 refine yat.ctrl hI (fun _ => stepG_region) fun d => ?_
 replace hq := QAt.at hq d
 generalize w.at d = w at hq ⊢
 rw [show List.range (pR9 A).size = [0, 1] from rfl]
 refine yat.op T hI hF hq rfl rfl (pR9_0_at A) rfl (pR9_0_at A) rfl ?_ rfl rfl fun y w hg hq _ => ?_
 ·simp only [execOp, pR9_0, e5]
 dsimp only [pR9_0] at hq ⊢
 refine yat.op T hI hF hq rfl rfl (pR9_1_at A) rfl (pR9_1_at A) rfl ?_ rfl rfl fun y' w hg hq hv => ?_
 ·simp only [execOp, pR9_1, yaj (a := aP) (d := 23) (by omega), yaj (a := aQ) (d := 23) (by omega)]
 dsimp only [pR9_1] at hq ⊢
 replace hq := hq.regionEnd.ret
 refine yat.ctrl hI (fun _ => stepG_region_end) fun d => ?_
 replace hq := QAt.at hq d
 generalize w.at d = w at hq ⊢
 refine yat.ctrl hI (fun _ => stepG_ret') fun d => ?_
 replace hq := QAt.at hq d
 generalize w.at d = w at hq ⊢
 have rP : ∀ w, stepG P true (gor { (base A.fPulls).at ((aP.put (some 23) y).put (some 4) y') [.code .ret] with mode := .returning } (cf :: inner)) w = .go (gor (cf.finish y') inner) w #[] := by
  intro w
  have e4 : ((aP.put (some 23) y).put (some 4) y').tmps.getD 4 undef = y' := yaj (a := aP.put (some 23) y) (d := 4) (by simp; omega) y'
  have := stepG_leave (P := P) (main := true) (b := base A.fPulls) (a := (aP.put (some 23) y).put (some 4) y') (todo := [.code .ret]) (c := cf) (cs := inner) (w := w) rfl (by simp [hdP]) H.pulls (results_tmp rfl _ P w) (events_results_tmp rfl _ _)
  rw [e4] at this
  exact this
 have rQ : ∀ v, stepG (twin P A) true (gor { (base A.fPulls).at ((aQ.put (some 23) y).put (some 4) y') [.code .ret] with mode := .returning } (cf :: inner ++ [ydu])) v = .go (gor (cf.finish y') (inner ++ [ydu])) v #[] := by
  intro v
  have e4 : ((aQ.put (some 23) y).put (some 4) y').tmps.getD 4 undef = y' := yaj (a := aQ.put (some 23) y) (d := 4) (by simp; omega) y'
  have := stepG_leave (P := twin P A) (main := true) (b := base A.fPulls) (a := (aQ.put (some 23) y).put (some 4) y') (todo := [.code .ret]) (c := cf) (cs := inner ++ [ydu]) (w := v) rfl (by simp [hdQ]) (q_pulls H) (results_tmp rfl _ _ v) (events_results_tmp rfl _ _)
  rw [e4] at this
  exact this
 replace hq := hq.ctrlI (.inr (by simp)) rQ
 refine yat.ctrl hI rP fun d => k y' _ (hq.at d)
theorem phase (H : yyy P A) (T1 : yqz P (twin P A) (ydo (twin P A)) (fun _ => True) Z D yca) (T2 : yqz P (twin P A) ok2 Rr2 Z2 D2 E2) (hRD : ∀ f, Rr2 f → ¬ D2 f) (hZ2 : ∀ f, Rr2 f → ¬ Z2 f) (hB2 : Rr2 A.fBody) (hB : Owns P A.fBody) (W : World) : ytk P (twin P A) Stop W A.fPulls := by
 intro s args cf inner ht hok hfr hin hcs ih X Shun c w hc hS hSm hKp
 have hQf : (twin P A).funcs[A.fBody]? = P.funcs[A.fBody]? := (T2.same _ hB2 (hRD _ hB2)).symm
 obtain ⟨sfr, sinner, sv⟩ := s
 simp only at hfr hin hSm
 subst hin
 rw [enter_at args (q_pulls H) (show (ytf A).body = some (ygq A) from rfl), show (ytf A).ntmps = 24 from rfl] at hfr
 subst hfr
 rw [enter_at args H.pulls (show (ypw A).body = some (ypv A) from rfl), show (ypw A).ntmps = 24 from rfl]
 generalize hs0 : (⟨(base A.fPulls).at ⟨args ++ Array.replicate (24 - args.size) undef, []⟩ [.code (ygq A)], cf :: inner, sv⟩ : Sta) = s0 at *
 have hlen : s0.inner = cf :: inner := by rw [← hs0]
 rw [hlen]
 have hq : QAt (twin P A) Stop ⟨s0, W⟩ X w ((base A.fPulls).at ⟨args ++ Array.replicate (24 - args.size) undef, []⟩ [.code (ygq A)]) (cf :: inner) := by
  have e : sv = s0.v := by rw [← hs0]
  refine ⟨sv, ⟨by rw [hs0]; exact ht, by rw [hs0]; exact hok, .inl hs0⟩, hSm, hKp⟩
 have hI1 : ydc c (fun T B => Past Shun B T) := yhf
 have hF1 : yfq X (fun T B => Past Shun B T) := fun T B B' fn pos es h hB he => yjo hS h hB he fn pos
 refine stageA T1 hI1 hF1 _ (by simp; omega) rfl hq fun a w h24 hd hq => ?_
 clear hSm hKp
 -- the group
 have hXlt : ∀ b, X b → b < w.heap.size := by
  obtain ⟨v, _, hs, _⟩ := hq
  intro b hb
  obtain ⟨cc, tt, hh, _⟩ := hs.bare b hb
  exact (Array.getElem?_eq_some_iff.1 hh).1
 generalize hWg : w.heap.size = Wg at *
 have hS1 : ∀ l, Shun l → ∃ a, l = .cell a ∧ (X a.block ∨ a.block = Wg) := fun l hl => by
  obtain ⟨ad, h1, h2⟩ := hS l hl
  exact ⟨ad, h1, .inl h2⟩
 have hWS : ∀ ad : Addr, ad.block = Wg → ¬ Shun (.cell ad) := fun ad he hs => by
  obtain ⟨ad', h1, h2⟩ := hS _ hs
  cases h1
  have := hXlt _ h2
  omega
 have hI2 : ydc c (fun T B => Pre Shun B Wg 0 T) := yva
 have hX1 : (fun b => X b ∨ b = Wg) Wg := .inr rfl
 have hF2 : yfq (fun b => X b ∨ b = Wg) (fun T B => Pre Shun B Wg 0 T) := fun T B B' fn pos es h hB he => pre_fine hX1 hS1 h hB he fn pos
 refine yat.step (I' := fun T B => Pre Shun B Wg 0 T) hI1 rfl fun d => ⟨_, _, _, alloc_step H a (w.at d), fun T fn pos hT => ?_, ?_⟩
 ·rw [yuu]
  refine Pre.of_past hT ?_ ?_
  ·omega
  ·show w.heap.size ≤ (w.heap.push _).size
   simp
 have hq1 := (hq.at d).bare rfl (qR2_0_at A) rfl rfl #[.int .u64 0, .int .u32 0]
 have hw1 : WgAt A.L.tWg Wg { w.at d with heap := w.heap.push (wgBlock A.L.tWg 0 0) } 0 0 := by
  show (w.heap.push _)[Wg]? = _
  rw [← hWg]; simp
 have eWg : (w.at d).heap.size = Wg := hWg
 rw [eWg] at hq1 ⊢
 dsimp only [qR2_0] at hq1
 refine stageB T1 hI2 hF2 hX1 (a.put (some 6) (.pointer (some ⟨Wg, 0, none⟩))) (by simpa using h24) (by simpa using hd) hq1 hw1 fun a1 w h24 hd e6 e13 e14 e19 hW hq => ?_
 rw [yaj (by omega)] at e6
 refine stageC H hc hX1 hS1 hWS a1 h24 (bodyV A a1) e6 e19 rfl hq hW fun w B1 B2 hb1 hb2 h1 h2 hMd hq => ?_
 clear hq1 hw1 hW
 -- the go statement
 refine yat.spawn hI2 rfl fun d => ⟨_, _, _, spawn_now 0 (w.at d), rfl, fun gs' sl' T0 T' q x y hT hdeaf hT' hx hxa hy hya htwo => ?_⟩
 have hc0 : c ≠ 0 := by omega
 have hM : Mid Shun (w.at d).heap.size Wg c 0 0 none T' := by rw [hT']; exact Mid.init hT hc0 hdeaf ⟨hx, hxa⟩ ⟨hy, hya⟩
 replace hq := hq.at d
 replace hMd : Made A Wg B1 B2 (bodyV A a1) KK (w.at d) := ⟨hMd.wg, hMd.b1, hMd.b2⟩
 generalize w.at d = w at hq hMd hM ⊢
 have hCS : CS P A.L.tWg Wg (FinW P (G ((base A.fPulls).at ((actW a1).put (((pR8 A)[0]?).bind (·.dst)) (.tuple #[])) [.inRegion (pR8 A) [], .code (qK9 A)]) (cf :: inner))) (yti A.L Wg (pulls8 A (actW a1)) (cf :: inner)) (4 + 3, 23) 0 (gor ((base A.fGo).at (yrh A Wg B1 B2 (bodyV A a1)) [.inRegion (gR2 A) []]) ((base A.fPulls).at a1 (.inRegion (pR6 A) [1] :: pK6 A) :: cf :: inner)) w :=
  .a (.kd (callerWalk H h24 e6 e13 e14 _ rfl)) hMd.wg
 generalize hFin : FinW P (G ((base A.fPulls).at ((actW a1).put (((pR8 A)[0]?).bind (·.dst)) (.tuple #[])) [.inRegion (pR8 A) [], .code (qK9 A)]) (cf :: inner)) = Fin at hCS
 generalize hAnch : yti A.L Wg (pulls8 A (actW a1)) (cf :: inner) = Anch at hCS
 have hAr : ∀ g, Anch g → g.status = .running := by rw [← hAnch]; exact yti.running
 have hAn : ∀ g, Anch g → ∃ m, Wk P true (Ka A.L.tWg Wg) (SW1 P A.L.tWg Wg Fin Anch) m g := by
  rw [← hAnch, ← hFin]
  exact fun g hg => waitRound (b₀ := base A.fPulls) (a₀ := actW a1) (ops₀ := pR8 A) (i₀ := 0) (rest₀ := []) (k₀ := [.code (qK9 A)]) (cs := cf :: inner) H.wg g hg
 -- the second enters the closure
 have hBody := hB
 obtain ⟨fn, hPf, hbn, hnm⟩ := hB
 have hqE := hq.call (qR6_3_at A) rfl (by simp [base]) rfl (hQf.trans hPf) hnm hbn
 generalize haQ : (a1.put (some 20) (.pointer (some ⟨B1, 0, none⟩))).put (some 21) (.pointer (some ⟨B2, 0, none⟩)) = aQ at hqE
 have sQ : 24 ≤ aQ.tmps.size := by rw [← haQ]; simpa using h24
 have dQ : aQ.defers = [] := by rw [← haQ]; simpa using hd
 have eQ : ∀ t, t ≠ 20 → t ≠ 21 → aQ.eval (.tmp t) = a1.eval (.tmp t) := fun t h1 h2 => by rw [← haQ, yae (Ne.symm h2), yae (Ne.symm h1)]
 have hcaps : (#[Operand.tmp 2, Operand.tmp 8, Operand.tmp 5, Operand.tmp 7].map aQ.eval : Array Value) = #[a1.eval (.tmp 2), a1.eval (.tmp 8), a1.eval (.tmp 5), a1.eval (.tmp 7)] := by
  simp only [List.map_toArray, List.map_cons, List.map_nil]
  rw [eQ 2 (by decide) (by decide), eQ 8 (by decide) (by decide), eQ 5 (by decide) (by decide), eQ 7 (by decide) (by decide)]
 rw [hcaps] at hqE
 generalize hcp : (#[a1.eval (.tmp 2), a1.eval (.tmp 8), a1.eval (.tmp 5), a1.eval (.tmp 7)] : Array Value) = caps at hqE
 have hbv : bodyV A a1 = .func (.func A.fBody) #[] caps := by rw [← hcp]; rfl
 generalize bodyV A a1 = body at hMd hCS hbv htwo
 clear hq hcaps e19
 obtain ⟨v1, hBel1, hSm1, hKp1⟩ := hqE
 generalize hX3d : (fun b => ((X b ∨ b = Wg) ∨ b = B1) ∨ b = B2) = X3 at hSm1 hKp1
 have hX3 : X3 Wg := by rw [← hX3d]; exact .inl (.inl (.inr rfl))
 have hXB1 : X3 B1 := by rw [← hX3d]; exact .inl (.inr rfl)
 have hS3 : ∀ l, Shun l → ∃ a, l = .cell a ∧ X3 a.block := fun l hl => by
  obtain ⟨ad, q1, q2⟩ := hS l hl
  exact ⟨ad, q1, by rw [← hX3d]; exact .inl (.inl (.inl q2))⟩
 let J : World → Prop := fun w => w.heap[B1]? = some (.cells #[ycy Wg] A.L.tWgP (0, 0)) ∧ ymj X3 W w
 have hJg : ∀ w w', ycq X3 w w' → J w → J w' := fun w w' hg h => ⟨(hg.keep B1 hXB1).trans h.1, h.2.grows hg⟩
 have hJs : ∀ w x, J w → J (w.setCell (stA Wg) x) := fun w x h => ⟨(yfj (a := stA Wg) (b := B1) (by show Wg ≠ B1; omega) x).trans h.1, h.2.setCell _ x⟩
 have slt : ∀ {w v : World}, yfs X3 w v → Wg < w.heap.size := fun {w v} h => by
  obtain ⟨cc, tt, hh, _⟩ := h.bare Wg hX3
  exact (Array.getElem?_eq_some_iff.1 hh).1
 -- the child's first yik
 have hK1 : ydr Wg (fun w => yfs X3 w v1 ∧ J w ∧ w.heap[B2]? = some (.cells #[body] A.tF (0, 0))) :=
  ⟨fun w d h => ⟨h.1.at d, ⟨h.2.1.1, h.2.1.2.at d⟩, h.2.2⟩, fun w x h => ⟨h.1.setX (a := stA Wg) hX3 x, hJs w x h.2.1, (yfj (a := stA Wg) (b := B2) (by show Wg ≠ B2; omega) x).trans h.2.2⟩, fun w h => slt h.1⟩
 refine yik hK1 hX3 hS3 hc0 (S := fun g _ => g = gor (Frame.enter P A.fBody caps .normal) [ywt A B1 B2 body, yrw P]) (fun g w h => by subst h; rfl) hAr hAn (fun gs a b w T q sl μ d0 hT1 hCS1 hK hb hM1 => ?_) (_, 10, _) _ _ w T' gs' q sl' 0 htwo rfl (Wk.rd w (childFirst H hBody hbv (fun w h => h.2.2))) hCS ⟨hSm1, ⟨hMd.b1, hKp1⟩, hMd.b2⟩ hM
 subst hb
 -- the work
 have hen : Frame.enter P A.fBody caps .normal = Frame.enter (twin P A) A.fBody caps .normal := yju (T2.same _ hB2 (hRD _ hB2))
 rw [hen] at hT1
 refine (work (cP := ywt A B1 B2 body) (sP := [yrw P]) T2 hRD hZ2 hX3 hS3 hc0 hAr hAn (C := Bel (twin P A) Stop s0) (fun s τ s' h hn ht => h.next hn ht) hJg hJs hBel1.1 hBel1.2.1 hBel1 [] rfl (ylv T2.code T2.subE hB2 (hRD _ hB2) (hQf.trans hPf)) (fun _ h => by simp at h) a w T gs q sl μ d0 hT1 hK.1 hK.2.1 hCS1 hM1).mono fun gs w sl T hWk => ?_
 obtain ⟨x, v2, a, q, μ, d0, hT2, htr2, hC2, hok2, hSm2, hJ2, hCS2, hM2⟩ := hWk
 -- its last yik
 have hK2 : ydr Wg (fun w => yfs X3 w v2 ∧ J w) := ⟨fun w d h => ⟨h.1.at d, h.2.1, h.2.2.at d⟩, fun w x h => ⟨h.1.setX (a := stA Wg) hX3 x, hJs w x h.2⟩, fun w h => slt h.1⟩
 refine yik hK2 hX3 hS3 hc0 (S := fun g _ => g = gor ((base A.L.add).at ⟨(List.toArray (ycy Wg :: .int .i64 (-1) :: List.replicate 115 undef)), []⟩ [.code (body_add A.L)]) [doneAt A.L Wg, ysf A B1 Wg, go1R A B1 B2 body x [], yrw P]) (fun g w h => by subst h; rfl) hAr hAn (fun gs a b w T q sl μ d0 hT3 hCS3 hK3 hb3 hM3 => ?_) (_, 30, _) _ _ w T gs q sl d0 hT2 rfl (Wk.rd w (childLast H x (fun w h => h.2.1))) hCS2 ⟨hSm2, hJ2⟩ hM2
 -- the join
 have hKc : Kc A.L.tWg Wg w := by
  cases hCS3 using CS.cs with
  |a _ hw => exact .inl hw
  |b _ hw => exact .inr hw
 have hCA : CA P A.L.tWg Wg 7 0 false 20 b := by
  subst hb3
  exact .r0 (Wk.of (addNeg (b₀ := base A.L.done) (a₀ := ⟨#[ycy Wg, undef, ycy Wg, undef], []⟩) (ops₀ := yiz A.L) (i₀ := 1) (rest₀ := []) (k₀ := []) (cs := [ysf A B1 Wg, go1R A B1 B2 body x [], yrw P]) H.wg (childQuits H) w hKc))
 have hJoin : ∃ μ, JS P A.L.tWg Wg c w.heap.size Shun Fin Anch (fun w => yfs X3 w v2 ∧ ymj X3 W w) μ a b w T := by
  cases hCS3 using CS.cs with
  |a hp hw => exact ⟨_, .a hp hCA hw rfl hM3 ⟨hK3.1, hK3.2.2⟩⟩
  |b hp hw => exact ⟨_, .b hp hCA hw rfl hM3 ⟨hK3.1, hK3.2.2⟩⟩
 obtain ⟨μj, hj⟩ := hJoin
 have hHo : Holds Wg (fun w => yfs X3 w v2 ∧ ymj X3 W w) := ⟨fun w d h => ⟨h.1.at d, h.2.at d⟩, fun w x h => ⟨h.1.setX (a := stA Wg) hX3 x, h.2.setCell _ x⟩, fun w x h => ⟨h.1.setX (a := smA Wg) hX3 x, h.2.setCell _ x⟩⟩
 have hszv : v2.heap.size = w.heap.size := hK3.1.size
 refine (join hHo hc0 (slt hK3.1) hAr hAn (_, μj) a b w T gs q sl hT3 rfl hj).mono fun gs w' sl T hJd => ?_
 obtain ⟨a, q, hsz, h0, hfin, hL, hPast, ⟨hSm3, hKp3⟩, hwg⟩ := hJd
 rw [← hFin] at hfin
 obtain ⟨m, hm⟩ := hfin
 rw [← hszv, hSm3.size] at hPast
 -- alone again
 have hS' : ∀ l, (Shun l ∨ OfW Wg l) → ∃ a, l = .cell a ∧ X3 a.block := fun l hl => by
  rcases hl with hl | ⟨ad, q1, q2⟩
  ·exact hS3 l hl
  ·exact ⟨ad, q1, by rw [q2]; exact hX3⟩
 refine yat.wk (I := fun T B => Past (fun l => Shun l ∨ OfW Wg l) B T) (c := c + 1) yhf rfl m a w' hm (fun w'' hat => ?_) gs sl T q hsz h0 hL hPast
 obtain ⟨d, rfl⟩ := hat
 have hq' : QAt (twin P A) Stop ⟨s0, W⟩ X3 (w'.at d) ((base A.fPulls).at (aQ.put (some 22) x) [.inRegion (qR6 A) [], .code (qK9 A)]) (cf :: inner) := ⟨v2, hC2, hSm3.at d, hKp3.at d⟩
 refine stageE H T1 (X := X3) yhf (fun T B B' fn pos es h hB he => yjo hS' h hB he fn pos) (by simp [actW]; omega) (by simpa using sQ) (by simp [actW, hd]) (by simp [dQ]) ?_ hq' fun y w hq => ?_
 ·rw [yae (by decide), eQ 5 (by decide) (by decide)]
  show ((actW a1).put (some 22) _).eval (.tmp 5) = _
  unfold actW
  rw [yae (by decide), yae (by decide), yae (by decide), yae (by decide), yae (by decide)]
 obtain ⟨v, hBel, hSm, hKp⟩ := hq
 have hlt : Relation.TransGen (Down (twin P A)) ⟨cf.finish y, inner, v⟩ s0 := hBel.2.2.resolve_left fun e => by
  have := congrArg (fun s : Sta => s.inner.length) e
  simp [hlen] at this
 exact ih _ hlt hBel.1 hBel.2.1 ⟨ylw (hcs cf (List.mem_cons_self ..)).1 _, fun c hc => hcs c (List.mem_cons_of_mem _ hc)⟩ X3 _ (c + 1) w (by omega) hS' hSm hKp
end
end Go.Sim

namespace Go.Sim
open Go.Conc Go.RowKit
section
variable {P Q : Program} {Stop : Frame → World → Prop} {Done : Array Goroutine → World → Trace → Prop} {c : Nat} {s0 : Org} {X : Nat → Prop} {I : Trace → Nat → Prop} {w : World} {inner cs : List Frame} {Z D : Nat → Prop}
theorem yat.opG (hI : ydc c I) (hF : yfq X I) {bQ bP : Frame} {aQ aP : Act} {opsQ opsP : Array Oper} {i j : Nat} {restQ restP : List Nat} {kQ kP : List Item} {oQ oP : Oper}
  (h : QAt Q Stop s0 X w (bQ.at aQ (.inRegion opsQ (i :: restQ) :: kQ)) inner) (hnQ : bQ.kind = .normal) (hnP : bP.kind = .normal)
  (hoQ : opsQ[i]? = some oQ) (hgQ : oQ.guard = none) (hoP : opsP[j]? = some oP) (hgP : oP.guard = none) (hsem : execOp aP.eval oP = execOp aQ.eval oQ) (hsim : ∀ d L v, Rel X L (w.at d) v → ybj X L (EscZ Z) (w.at d) #[] ((execOp aQ.eval oQ).runT P (w.at d) #[]) ((execOp aQ.eval oQ).run Q v)) (hpl : yaq Q ywd (execOp aQ.eval oQ))
  (k : ∀ x w', ycq X w w' → QAt Q Stop s0 X w' (bQ.at (aQ.put oQ.dst x) (.inRegion opsQ restQ :: kQ)) inner → (∃ v v' a, yfs X w v ∧ yfs X w' v' ∧ (execOp aQ.eval oQ).run Q v = .ok a v' ∧ (a = .value x ∨ a = .skip)) → yat P Done c I (gor (bP.at (aP.put oP.dst x) (.inRegion opsP restP :: kP)) cs) w') :
  yat P Done c I (gor (bP.at aP (.inRegion opsP (j :: restP) :: kP)) cs) w := by
 refine yat.step (I' := I) hI rfl fun d => ?_
 obtain ⟨x, w', es, e, hf, hg, hq, v, v', a, h1, h2, h3, h4⟩ := (h.at d).opG (Z := Z) (bP := bP) (aP := aP) (restP := restP) (kP := kP) hnQ hnP hoQ hgQ hoP hgP hsem (hsim d) hpl true cs
 exact ⟨_, w', es, e, fun Tr fn pos hT => hF Tr _ _ fn pos es hT hg.size hf, k x w' hg.of_at hq ⟨v, v', a, ⟨h1.size, h1.same, h1.bare, h1.os, h1.output⟩, h2, h3, h4⟩⟩
end
end Go.Sim

namespace Go.Sim
open Go.Conc Go.RowKit
section
variable {P Q : Program} {X : Nat → Prop} {L : Lim} {w v : World} {es : Array Event}
theorem zfs (hT : P.toTables = Q.toTables) {Esc : Value → Prop} (src dst : TypeId) (a : Option Addr) (n c : Nat) : yaa P Q X Esc (Conv.unsafePointer src dst (.slice a n c)) := by
 unfold Conv.unsafePointer
 refine yaa.bind (zfo hT _) fun d => yaa.bind (zfo hT _) fun e => ?_
 cases d <;> cases e <;> exact yaa.halt _
theorem yri (hT : P.toTables = Q.toTables) {Esc : Value → Prop} (h : Rel X L w v) {a : Addr} (hX : ¬ X a.block) (src dst : TypeId) (n c : Nat) : ybj X L Esc w es ((convert src dst (.slice (some a) n c)).runT P w es) ((convert src dst (.slice (some a) n c)).run Q v) := by
 have hmark : ∀ {L : Lim} {w v : World} {es : Array Event}, Rel X L w v → ybj X L Esc w es ((markStringish a >>= fun _ => (pure (.slice (some a) n c) : Sem Value)).runT P w es) ((markStringish a >>= fun _ => (pure (.slice (some a) n c) : Sem Value)).run Q v) := by
  intro L w v es h
  unfold markStringish
  show ybj X L Esc w es ((Sem.shape a.block fun x => _).runT P w es) ((Sem.shape a.block fun x => _).run Q v)
  simp only [Sem.run, Sem.runT, h.shapeN hX]
  cases w.shape? a.block with
  |none => exact yaa.pure (P := P) (Q := Q) _ _ _ _ _ h
  |some x =>
   obtain ⟨t, m⟩ := x
   show ybj X L Esc w es ((Sem.freeze _ 1 (Sem.pure (.slice (some a) n c))).runT P w es) ((Sem.freeze _ 1 (Sem.pure (.slice (some a) n c))).run Q v)
   simp only [Sem.run, Sem.runT]
   refine ybj.step (pre := #[]) (w1 := w.freeze { block := a.block, off := m } 1) ?_ (ygo (a := { block := a.block, off := m }) hX _) (by simp)
   simp only [Array.append_empty]
   exact yaa.pure (P := P) (Q := Q) _ _ _ _ _ (h.freeze (a := { block := a.block, off := m }) hX _)
 unfold convert
 refine ycm hT fun d hd => ycm hT fun e hE => ?_
 cases d <;> cases e <;> first
  |exact yaa.halt _ rfl _ _ _ _ h
  |(refine ycm hT fun z hz => ?_
    generalize (src == dst) = bb
    cases bb
    ·exact yaa.halt _ rfl _ _ _ _ h
    ·cases z <;> first
      |exact yaa.halt _ rfl _ _ _ _ h
      |(rename_i k
        cases k <;> first
         |exact yaa.halt _ rfl _ _ _ _ h
         |exact hmark h))
  |(refine ycm hT fun _ _ => ?_
    split
    ·exact zau hT _ _ _ _ _ h
    ·exact zel hT _ _ _ _ _ h
    ·exact yaa.halt _ rfl _ _ _ _ h)
  |exact zfs hT _ _ _ _ _ _ _ _ _ h
end
/-! ### memory is never given back -/
theorem yrp {p : Program} {w w' : World} {at_ : Addr} {u : TypeId} {k : Addr} {x : Value} {m : Bool} {l : List Addr} (h : w.viewStore p at_ u k x m = .ok (w', l)) : w'.heap.size = w.heap.size := by
 obtain ⟨_, _, _, _, _, rfl, _⟩ := ynw h
 simp
theorem ytw {p : Program} {w w' : World} {a : Addr} {x : Value} {m : Bool} {l : List Addr} (h : w.farStore p a x m = .ok (w', l)) : w'.heap.size = w.heap.size := by
 unfold World.farStore at h
 split at h
 ·split at h
  ·next r e =>
   obtain ⟨y, z⟩ := r
   cases h
   exact yrp e
  ·cases h
 ·cases h
theorem ask_heap {α : Type} (a : Ask α) : ∀ w : World, (w.ask a).2.heap = w.heap := by
 induction a with
 |done a => exact fun w => rfl
 |ask what range k ih =>
  intro w
  unfold World.ask
  dsimp only
  split
  ·exact ih _ w
  ·exact ih _ { w with drawn := w.drawn + 1 }
theorem sys_heap (w : World) (c : Sys) : (w.sys c).2.heap = w.heap := by
 have := ask_heap (Kernel.perform c w.os) w
 unfold World.sys
 revert this
 generalize w.ask (Kernel.perform c w.os) = x
 obtain ⟨⟨r, o⟩, w1⟩ := x
 intro h
 cases r <;> first | rfl | exact h
theorem run_size {α : Type} (P : Program) (s : Sem α) : ∀ w : World, w.heap.size ≤ (s.run P w).wd.heap.size := by
 induction s with
 |pure a => exact fun w => Nat.le_refl _
 |halt h => exact fun w => Nat.le_refl _
 |load m a k ih =>
  intro w
  simp only [Sem.run]
  repeat' split
  ·exact ih _ _
  ·exact ih _ _
  ·exact Nat.le_refl _
 |store m a v k ih =>
  intro w
  have key : w.heap.size ≤ (match w.cell? a with
   |some _ => if w.frozen? a then .halt (.unsupported (.unsafePointer "a write to bytes that a string shares")) w else k.run P (w.setCell a v)
   |none => match w.farStore P a v (m == .atomic) with
    |.ok (w, _) => k.run P w
    |.error h => .halt h w : Result _).wd.heap.size := by
   repeat' split
   ·exact Nat.le_refl _
   ·have := ih (w.setCell a v); simpa [World.setCell] using this
   ·next x w' l e => rw [← ytw e]; exact ih w'
   ·exact Nat.le_refl _
  cases v <;> first | exact Nat.le_refl _ | exact key
 |new o k ih => intro w; have := ih w.heap.size { w with heap := w.heap.push o }; simp only [Array.size_push] at this; simp only [Sem.run]; omega
 |shape r k ih => exact fun w => ih _ w
 |freeze a n k ih => intro w; simp only [Sem.run]; have e : (w.freeze a n).heap.size = w.heap.size := by (unfold World.freeze; split; rfl; simp)
                     rw [← e]; exact ih _
 |frozen a k ih => exact fun w => ih _ w
 |getObj r k ih =>
  intro w
  simp only [Sem.run]
  repeat' split
  ·exact Nat.le_refl _
  ·exact ih _ _
  ·exact Nat.le_refl _
 |setObj r o k ih =>
  intro w
  simp only [Sem.run]
  repeat' split
  ·exact Nat.le_refl _
  ·have := ih { w with heap := w.heap.setIfInBounds r o }; simpa using this
  ·exact Nat.le_refl _
 |choose q k ih =>
  intro w
  simp only [Sem.run]
  split
  ·exact ih _ _
  ·exact ih _ { w with drawn := w.drawn + 1 }
 |sys c k ih => intro w; simp only [Sem.run]; have e := sys_heap w c; rw [← e]; exact ih _ _
 |program k ih => exact fun w => ih _ w
 |mark m k ih => exact fun w => ih w
def New (Q : Program) (s : Sem Value) : Prop := ∀ v a v', s.run Q v = .ok a v' → ∃ b n c, a = .slice (some ⟨b, 0, none⟩) n c ∧ v.heap.size ≤ b
theorem New.bind {Q : Program} {α : Type} {s : Sem α} {f : α → Sem Value} (h : ∀ a, New Q (f a)) : New Q (s.bind f) := fun v a v' e => by
 have hs := run_size Q s v
 rw [run_bind] at e
 generalize s.run Q v = r at e hs
 cases r with
 |ok x v1 =>
  obtain ⟨b, n, c, h1, h2⟩ := h x v1 a v' e
  exact ⟨b, n, c, h1, Nat.le_trans hs h2⟩
 |halt y v1 => cases e
theorem New.halt {Q : Program} (x : Halt) : New Q (Sem.halt x : Sem Value) := fun v a v' e => by simp [Sem.run] at e
theorem yra (Q : Program) (t : TypeId) (n : Nat) (ps : Array (Nat × Value)) : New Q (Instr.buildSlice t n ps) := by
 have last : ∀ (e : TypeId) (cs : Array Value), New Q (newRow e cs >>= fun a => (pure (.slice (some a) n n) : Sem Value)) := by
  intro e cs v a v' h
  change (Sem.new _ fun r => Sem.pure _).run Q v = _ at h
  simp only [Sem.run, Result.ok.injEq] at h
  exact ⟨v.heap.size, n, n, h.1.symm, Nat.le_refl _⟩
 unfold Instr.buildSlice
 refine New.bind fun d => ?_
 split
 ·refine New.bind fun size => ?_
  (repeat' first
   |exact last _ _
   |exact New.halt _
   |refine New.bind fun _ => ?_
   |split
   |dsimp only)
 ·exact New.halt _
end Go.Sim

namespace Go.Sim
open Go.Conc Go.RowKit
section
variable {P Q : Program} {Stop : Frame → World → Prop} {Z D : Nat → Prop} {F : Nat} {fn : Func}
theorem phaseHex (T : yqz P Q (ydo Q) (fun _ => True) Z D yca) (hP : P.funcs[F]? = some fn) (hQ : Q.funcs[F]? = some fn) {i0 i1 : Nat} {R0 : Array Oper} {ob oc oa : Oper} {rest : Code} {t u u' : TypeId} {n k : Nat} {ps : Array (Nat × Operand)}
  (hb : fn.body = some ((Code.region i0 R0 false).seq ((Code.region i1 #[ob, oc, oa] false).seq rest))) (h0 : yhv Q R0 = true) (gb : ob.guard = none) (bop : ob.op = .buildSlice t n ps) (bdst : ob.dst = some k) (hk : k < fn.ntmps) (gc : oc.guard = none) (cop : oc.op = .convert u u' (.tmp k))
  (ha : oa.guard = none ∧ ydo Q oa.op = true ∧ yee oa.op = true) (hrest : ybe (ydo Q) rest = true) (W : World) : ytk P Q Stop W F := by
 intro s args cf inner ht hok hfr hin hcs ih X Shun c w hc hS hSm hKp
 obtain ⟨sfr, sinner, sv⟩ := s
 simp only at hfr hin hSm
 subst hin
 rw [enter_at args hQ hb] at hfr
 subst hfr
 rw [enter_at args hP hb]
 generalize ha0 : ({ tmps := args ++ Array.replicate (fn.ntmps - args.size) undef, defers := [] } : Act) = a0 at *
 have hsz : k < a0.tmps.size := by rw [← ha0]; simp; omega
 generalize hs0 : (⟨(base F).at a0 [.code ((Code.region i0 R0 false).seq ((Code.region i1 #[ob, oc, oa] false).seq rest))], cf :: inner, sv⟩ : Sta) = s0 at *
 have hlen : s0.inner = cf :: inner := by rw [← hs0]
 rw [hlen]
 have hq : QAt Q Stop ⟨s0, W⟩ X w ((base F).at a0 [.code ((Code.region i0 R0 false).seq ((Code.region i1 #[ob, oc, oa] false).seq rest))]) (cf :: inner) :=
  ⟨sv, ⟨by rw [hs0]; exact ht, by rw [hs0]; exact hok, .inl hs0⟩, hSm, hKp⟩
 have hI : ydc c (fun T B => Past Shun B T) := yhf
 have hF : yfq X (fun T B => Past Shun B T) := fun T B B' fn pos es h hB he => yjo hS h hB he fn pos
 refine yat.ctrl hI (fun _ => stepG_seq) fun d => ?_
 replace hq := (QAt.at hq d).seq
 generalize w.at d = w at hq ⊢
 refine yat.ctrl hI (fun _ => stepG_region) fun d => ?_
 replace hq := (QAt.at hq d).region
 generalize w.at d = w at hq ⊢
 refine yat.region T hI hF rfl rfl _ a0 w (yjw h0) hq fun a1 w e1 e2 _ _ hq => ?_
 replace hq := hq.regionEnd
 refine yat.ctrl hI (fun _ => stepG_region_end) fun d => ?_
 replace hq := (QAt.at hq d).seq
 generalize w.at d = w at hq ⊢
 refine yat.ctrl hI (fun _ => stepG_seq) fun d => ?_
 replace hq := (QAt.at hq d).region
 generalize w.at d = w at hq ⊢
 refine yat.ctrl hI (fun _ => stepG_region) fun d => ?_
 replace hq := QAt.at hq d
 generalize w.at d = w at hq ⊢
 -- the row is made
 refine yat.opG (Z := Z) hI hF hq rfl rfl (show #[ob, oc, oa][0]? = some ob from rfl) gb (show #[ob, oc, oa][0]? = some ob from rfl) gb rfl (fun d L v hR => ?_) ?_ fun x w1 hg hq hv => ?_
 ·have := T.ops X ((base F).at a1 []) ob (by rw [bop]; rfl)
  rw [Frame.eval_at'] at this
  exact this L (w.at d) v #[] hR
 ·unfold execOp
  rw [bop]
  exact ydq
 obtain ⟨b, m, cc, rfl, hbX⟩ : ∃ b m cc, x = .slice (some ⟨b, 0, none⟩) m cc ∧ ¬ X b := by
  obtain ⟨v, v', a, hs1, hs2, hrun, hx⟩ := hv
  unfold execOp at hrun
  rw [bop] at hrun
  change ((Instr.buildSlice t n _).bind fun y => Sem.pure (Next.value y)).run Q v = _ at hrun
  rw [run_bind] at hrun
  split at hrun
  ·next y v1 hy =>
   obtain ⟨b, m, cc, rfl, hsize⟩ := yra Q _ _ _ _ _ _ hy
   simp only [Sem.run, Result.ok.injEq] at hrun
   obtain ⟨rfl, _⟩ := hrun
   rcases hx with hx | hx
   ·cases hx
    refine ⟨b, m, cc, rfl, fun hX => ?_⟩
    obtain ⟨c1, t1, hw, _⟩ := hs1.bare b hX
    have := (Array.getElem?_eq_some_iff.1 hw).1
    have := hs1.size
    omega
   ·cases hx
  ·cases hrun
 have ek : (a1.put ob.dst (.slice (some ⟨b, 0, none⟩) m cc)).eval (.tmp k) = .slice (some ⟨b, 0, none⟩) m cc := by
  rw [bdst]
  exact yaj (by omega) _
 -- it is taken for a list of bytes
 refine yat.opG (Z := Z) hI hF hq rfl rfl (show #[ob, oc, oa][1]? = some oc from rfl) gc (show #[ob, oc, oa][1]? = some oc from rfl) gc rfl (fun d L v hR => ?_) ?_ fun y w2 hg2 hq _ => ?_
 ·unfold execOp
  rw [cop]
  dsimp only
  rw [ek]
  exact ybj.bind (yri T.tables hR hbX _ _ _ _) fun _ => yaa.pure _
 ·unfold execOp
  rw [cop]
  exact ydq
 refine yat.region T hI hF rfl rfl [2] _ w2 (fun i hi => ?_) hq fun a3 w e3 e4 _ _ hq => ?_
 ·obtain rfl := List.mem_singleton.1 hi
  exact ⟨oa, rfl, ha.1, ha.2.1, ha.2.2⟩
 replace hq := hq.regionEnd
 refine yat.ctrl hI (fun _ => stepG_region_end) fun d => ?_
 replace hq := QAt.at hq d
 generalize w.at d = w at hq ⊢
 obtain ⟨v, hBel, hSm', hKp'⟩ := hq
 have hlt : Relation.TransGen (Down Q) ⟨(base F).at a3 [.code rest], cf :: inner, v⟩ s0 := hBel.2.2.resolve_left fun e => by
  rw [← hs0] at e
  have := congrArg (fun s => s.fr.todo) e
  simp only [Frame.at, List.cons.injEq, Item.code.injEq, and_true] at this
  have h2 := congrArg (SizeOf.sizeOf : Code → Nat) this
  simp only [Code.seq.sizeOf_spec] at h2
  omega
 refine ih _ hlt hBel.1 hBel.2.1 ⟨⟨?_, hBel.2.1.fr.defers, hBel.2.1.fr.kind, hBel.2.1.fr.round, hBel.2.1.fr.fn, hBel.2.1.fr.inn⟩, hcs⟩ X Shun c w hc hS hSm' hKp'
 show ybp (ydo Q) [.code rest] = true
 simp [ybp, ykm, hrest]
end
end Go.Sim
#print axioms Go.Sim.phaseHex

namespace Go.Sim
open Go.Conc Go.RowKit
section
variable {Q : Program} {ρ : Operand → Value} {o : Oper}
theorem ytv {α : Type} {φ ψ : α → Prop} {s : Sem α} (h : yaq Q φ s) (hi : ∀ a, φ a → ψ a) : yaq Q ψ s := fun v a v' e => hi a (h v a v' e)
theorem yaq.bind' {α β : Type} {χ : α → Prop} {φ : β → Prop} {s : Sem α} {f : α → Sem β} (hs : yaq Q χ s) (h : ∀ a, χ a → yaq Q φ (f a)) : yaq Q φ (s.bind f) := fun v b v' e => by
 rw [run_bind] at e
 split at e
 ·next x v1 hx => exact h x (hs _ _ _ hx) _ _ _ e
 ·cases e
theorem yjk {x : Operand} (hop : o.op = .nilCheck x) : yaq Q (fun a => a = .value (ρ x)) (execOp ρ o) := by
 unfold execOp
 rw [hop]
 dsimp only
 split
 ·exact yai _
 ·exact yai _
 ·exact yai _
 ·next h =>
  rw [h]
  split
  ·exact yai _
  ·refine yaq.bind fun _ => yaq.bind fun b => ?_
   split
   ·exact yaq.bind fun _ => yaq.pure rfl
   ·exact yaq.pure rfl
  ·exact yaq.pure rfl
 ·exact yaq.pure rfl
theorem part_block (a : Addr) (n m : Nat) : yaq Q (fun b => b.block = a.block) (partAt a n m) := by
 unfold partAt
 refine yaq.bind fun x => ?_
 dsimp only
 refine yaq.bind fun y => yaq.pure ?_
 split <;> rfl
theorem place_block (a : Addr) (f : Field) : yaq Q (fun b => b.block = a.block) (fieldPlace a f) := by
 unfold fieldPlace
 refine yaq.bind fun x => ?_
 split
 ·exact part_block _ _ _
 ·exact yaq.pure (by unfold Addr.add; split <;> rfl)
theorem ywo {s : TypeId} {x : Operand} {n : Nat} (hop : o.op = .fieldAddr s x n) : yaq Q (fun a => ∃ p p' : Addr, ρ x = .pointer (some p) ∧ a = .value (.pointer (some p')) ∧ p'.block = p.block) (execOp ρ o) := by
 unfold execOp
 rw [hop]
 dsimp only
 refine yaq.bind' (χ := fun z => ∃ p p' : Addr, ρ x = .pointer (some p) ∧ z = .pointer (some p') ∧ p'.block = p.block) ?_ fun z hz => yaq.pure ?_
 ·unfold Instr.fieldAt
  refine yaq.bind fun d => ?_
  split
  ·split
   ·refine yaq.bind' (χ := fun p => ρ x = .pointer (some p)) ?_ fun p hp => ?_
    ·unfold Instr.sureAddr
     split
     ·next h => exact yaq.pure h
     ·exact yaq.halt _
    ·exact yaq.bind' (place_block _ _) fun p' hp' => yaq.pure ⟨p, p', hp, rfl, hp'⟩
   ·exact yaq.halt _
  ·exact yaq.halt _
 ·obtain ⟨p, p', h1, h2, h3⟩ := hz
  exact ⟨p, p', h1, by rw [h2], h3⟩
theorem yur {like x : Value} {bs : List UInt8} (h : like.ofBytes bs = some x) : x ≠ .pointer none := by
 rintro rfl
 cases like <;> simp [Value.ofBytes] at h
 split at h <;> cases h
theorem yro {p : Program} {v : World} {at_ : Addr} {u : TypeId} {k : Addr} {m : Bool} {y : Value} {l : List Addr} (h : v.viewLoad p at_ u k m = .ok (y, l)) : y ≠ .pointer none := by
 unfold World.viewLoad at h
 cases hs : v.seen p at_ u k m with
 |error e => rw [hs] at h; cases h
 |ok r =>
  rw [hs] at h
  simp only [bind, Except.bind, pure, Except.pure] at h
  split at h
  ·next z hz =>
   cases h
   exact yur hz
  ·cases h
theorem load_val {t : TypeId} {x : Operand} (hop : o.op = .load t x) {v v' : World} (h : (execOp ρ o).run Q v = .ok (.value (.pointer none)) v') : ∃ p y, ρ x = .pointer (some p) ∧ v.cell? p = some y := by
 unfold execOp at h
 rw [hop] at h
 dsimp only at h
 change ((Instr.loadAt t (ρ x)).bind fun z => Sem.pure (Next.value z)).run Q v = _ at h
 rw [run_bind] at h
 split at h
 ·next z v1 hz =>
  simp only [Sem.run, Result.ok.injEq, Next.value.injEq] at h
  obtain ⟨rfl, rfl⟩ := h
  unfold Instr.loadAt at hz
  unfold Instr.sureAddr at hz
  split at hz
  ·next p hp =>
   refine ⟨p, ?_⟩
   change (loadVar t p).run Q v = _ at hz
   unfold loadVar at hz
   change ((isAgg t).bind fun b => _).run Q v = _ at hz
   rw [run_bind] at hz
   split at hz
   ·next b v2 hb =>
    have hv2 : v2 = v := by
     unfold isAgg at hb
     change ((underlying t).bind fun d => _).run Q v = _ at hb
     rw [run_bind] at hb
     have hu : ∀ d v3, (underlying t).run Q v = .ok d v3 → v3 = v := by
      intro d v3 hd
      unfold underlying at hd
      change (match Q.underlying t with | some d => (Pure.pure d : Sem TypeDesc) | none => stuck "no such type").run Q v = _ at hd
      cases hq : Q.underlying t with
      |none => rw [hq] at hd; cases hd
      |some d' => rw [hq] at hd; cases hd; rfl
     split at hb
     ·next d v3 hd =>
      have := hu d v3 hd
      cases d <;> (cases hb; exact this)
     ·cases hb
    subst hv2
    cases b with
    |true =>
     exfalso
     change ((sizeOf t).bind fun n => (loadCells p n).bind fun c => Sem.pure (Value.agg c)).run Q v2 = _ at hz
     rw [run_bind] at hz
     split at hz
     ·rw [run_bind] at hz
      split at hz
      ·simp [Sem.run] at hz
      ·cases hz
     ·cases hz
    |false =>
     change (Sem.load .plain p fun z => Sem.pure z).run Q v2 = _ at hz
     simp only [Sem.run] at hz
     cases hc : v2.cell? p with
     |some y => exact ⟨y, hp, rfl⟩
     |none =>
      exfalso
      rw [hc] at hz
      dsimp only at hz
      split at hz
      ·next y l hf =>
       simp only [Sem.run, Result.ok.injEq] at hz
       obtain ⟨rfl, _⟩ := hz
       unfold World.farLoad at hf
       split at hf
       ·split at hf
        ·next r hr =>
         cases hf
         exact yro hr rfl
        ·cases hf
       ·cases hf
      ·cases hz
   ·cases hz
  ·cases hz
 ·cases h
theorem equalIn_nil {t e : TypeId} (ht : Q.underlying t = some (.pointer e)) (d : Nat) (x : Value) {v v' : World} (h : (Op.equalIn (d + 1) t x (.pointer none)).run Q v = .ok true v') : x = .pointer none := by
 unfold Op.equalIn at h
 change ((underlying t).bind fun k => _).run Q v = _ at h
 rw [run_bind] at h
 have hu : (underlying t).run Q v = .ok (.pointer e) v := by
  change (match Q.underlying t with | some d => (Pure.pure d : Sem TypeDesc) | none => stuck "no such type").run Q v = _
  rw [ht]
  rfl
 rw [hu] at h
 cases x with
 |pointer a =>
  cases a with
  |none => rfl
  |some a => cases h
 |_ => cases h
theorem eql_nil {t e t' : TypeId} {x y : Operand} (ht : Q.underlying t = some (.pointer e)) (hop : o.op = .binOp .eql t x y t') (hy : ρ y = .pointer none) {v v' : World} (h : (execOp ρ o).run Q v = .ok (.value (.bool true)) v') : ρ x = .pointer none := by
 unfold execOp at h
 rw [hop] at h
 dsimp only at h
 rw [hy] at h
 change (((eqGuard .eql t x y (ρ x) (.pointer none)).bind fun _ => binOp .eql t (ρ x) (.pointer none)).bind fun z => Sem.pure (Next.value z)).run Q v = _ at h
 rw [run_bind] at h
 split at h
 ·next z v1 hz =>
  simp only [Sem.run, Result.ok.injEq, Next.value.injEq] at h
  obtain ⟨rfl, rfl⟩ := h
  rw [run_bind] at hz
  split at hz
  ·next u v2 hu =>
   have key : ((Op.equal t (ρ x) (.pointer none)).bind fun b => Sem.pure (Value.bool b)).run Q v2 = .ok (.bool true) v1 := by
    cases hx : ρ x <;> rw [hx] at hz <;> exact hz
   rw [run_bind] at key
   split at key
   ·next b v3 hb =>
    simp only [Sem.run, Result.ok.injEq, Value.bool.injEq] at key
    obtain ⟨rfl, rfl⟩ := key
    exact equalIn_nil ht _ _ hb
   ·cases key
  ·cases hz
 ·cases h
end
end Go.Sim

namespace Go.Sim
open Go.Conc Go.RowKit
section
variable {P Q : Program} {X : Nat → Prop} {L : Lim} {w v : World} {es : Array Event}
theorem ymw {α β : Type} {Esc : β → Prop} {s : Sem α} {f : α → Sem β} {x : α} (h1 : s.run Q v = .ok x v) (h2 : s.runT P w es = (.ok x w, es)) (h : ybj X L Esc w es ((f x).runT P w es) ((f x).run Q v)) : ybj X L Esc w es ((s.bind f).runT P w es) ((s.bind f).run Q v) := by
 rw [run_bind, yeq, h1, h2]
 exact h
theorem view_run {P : Program} {w : World} {r : Nat} {x : TypeId × Nat} (h : w.shape? r = some x) : (viewAt r).run P w = .ok none w ∧ ∀ es, (viewAt r).runT P w es = (.ok none w, es) := by
 unfold viewAt
 constructor
 ·change (Sem.shape r fun y => _).run P w = _
  simp only [Sem.run, h]
  rfl
 ·intro es
  change (Sem.shape r fun y => _).runT P w es = _
  simp only [Sem.runT, h]
  rfl
theorem yvr {P : Program} {w : World} {a : Addr} {x : TypeId × Nat} (h : w.shape? a.block = some x) : (Conv.seenAt a).run P w = .ok a w ∧ ∀ es, (Conv.seenAt a).runT P w es = (.ok a w, es) := by
 unfold Conv.seenAt
 obtain ⟨h1, h2⟩ := view_run (P := P) h
 constructor
 ·change ((viewAt a.block).bind fun y => _).run P w = _
  rw [run_bind, h1]
  rfl
 ·intro es
  change ((viewAt a.block).bind fun y => _).runT P w es = _
  rw [yeq, h2]
  rfl
theorem yow {P : Program} {w : World} {r : Nat} {t : TypeId} {n : Nat} (h : w.shape? r = some (t, n)) : (cellsIn r).run P w = .ok (some n) w ∧ ∀ es, (cellsIn r).runT P w es = (.ok (some n) w, es) := by
 unfold cellsIn
 constructor
 ·change (Sem.shape r fun y => _).run P w = _
  simp only [Sem.run, h]
  rfl
 ·intro es
  change (Sem.shape r fun y => _).runT P w es = _
  simp only [Sem.runT, h]
  rfl
theorem ynr (hT : P.toTables = Q.toTables) {Esc : Value → Prop} (h : Rel X L w v) {a : Addr} (hX : ¬ X a.block) {x : TypeId × Nat} (hc : v.shape? a.block = some x) (src dst : TypeId) : ybj X L Esc w es ((Conv.unsafePointer src dst (.pointer (some a))).runT P w es) ((Conv.unsafePointer src dst (.pointer (some a))).run Q v) := by
 have hw : w.shape? a.block = some x := (h.shapeN hX).symm.trans hc
 obtain ⟨t, n⟩ := x
 unfold Conv.unsafePointer
 refine ycm hT fun d hd => ycm hT fun e he => ?_
 have s1 := yvr (P := Q) hc
 have s2 := yvr (P := P) hw
 have c1 := yow (P := Q) hc
 have c2 := yow (P := P) hw
 cases d <;> cases e <;> first
  |exact yaa.halt _ rfl _ _ _ _ h
  |exact yaa.pure _ _ _ _ _ h
  |(unfold asNumber
    exact yaa.bind (zdq _ rfl) (fun _ => yaa.pure _) _ _ _ _ h)
  |(refine ymw s1.1 (s2.2 _) (ymw c1.1 (c2.2 _) ?_)
    refine yaa.bind (zet hT _) (fun m => ?_) _ _ _ _ h
    dsimp only
    split
    ·exact yaa.bind (zdq _ rfl) fun _ => yaa.pure _
    ·exact yaa.pure _)
  |(refine ymw s1.1 (s2.2 _) ?_
    refine yaa.bind (zet hT _) (fun m => ?_) _ _ _ _ h
    refine yaa.bind (zft hT a hX _ _) fun b => ?_
    split
    ·exact yaa.pure _
    ·refine zeq (fun _ _ _ => rfl) fun y => ?_
     dsimp only
     split
     ·refine zed (by simp only [holds_eq hT]) (zed (by simp only [yci hT]) ?_)
      split
      ·exact yaa.bind (yaa.halt _) fun _ => yaa.bind (zdq _ rfl) fun _ => yaa.pure _
      ·exact yaa.bind (zdq _ rfl) fun _ => yaa.pure _
     ·exact yaa.bind (yaa.halt _) fun _ => yaa.bind (zdq _ rfl) fun _ => yaa.pure _)
end
end Go.Sim

namespace Go.Sim
open Go.Conc Go.RowKit
section
variable {Q : Program} {ρ : Operand → Value} {o : Oper}
theorem und_ends (t : TypeId) : yaq Q (fun d => Q.underlying t = some d) (underlying t) := by
 intro v d v' hd
 change (match Q.underlying t with | some d => (Pure.pure d : Sem TypeDesc) | none => stuck "no such type").run Q v = _ at hd
 cases hq : Q.underlying t with
 |none => rw [hq] at hd; cases hd
 |some d' => rw [hq] at hd; cases hd; rfl
theorem size_ends (t : TypeId) : yaq Q (fun m => (Q.info? t).map (·.size) = some m) (sizeOf t) := by
 unfold sizeOf
 refine yaq.bind' (χ := fun i => Q.info? t = some i) ?_ fun i hi => yaq.pure (by rw [hi]; rfl)
 intro v d v' hd
 change (match Q.info? t with | some d => (Pure.pure d : Sem TypeInfo) | none => stuck "no such type").run Q v = _ at hd
 cases hq : Q.info? t with
 |none => rw [hq] at hd; cases hd
 |some d' => rw [hq] at hd; cases hd; rfl
theorem field_self {s : TypeId} {x : Operand} {n k : Nat} {fields : Array Field} {f : Field} (hs : Q.underlying s = some (.struct fields)) (hf : fields[n]? = some f) (hoff : f.offset = 0) (hsz : (Q.info? f.type).map (·.size) = some k) (hk : k ≠ 0) (hop : o.op = .fieldAddr s x n) :
  yaq Q (fun a => ∃ p : Addr, ρ x = .pointer (some p) ∧ a = .value (.pointer (some p))) (execOp ρ o) := by
 unfold execOp
 rw [hop]
 dsimp only
 refine yaq.bind' (χ := fun z => ∃ p : Addr, ρ x = .pointer (some p) ∧ z = .pointer (some p)) ?_ fun z hz => yaq.pure ?_
 ·unfold Instr.fieldAt
  refine yaq.bind' (und_ends s) fun d hd => ?_
  rw [hs] at hd
  cases hd
  dsimp only
  rw [hf]
  dsimp only
  refine yaq.bind' (χ := fun p => ρ x = .pointer (some p)) ?_ fun p hp => ?_
  ·unfold Instr.sureAddr
   split
   ·next h => exact yaq.pure h
   ·exact yaq.halt _
  ·refine yaq.bind' (χ := fun p' => p' = p) ?_ fun p' hp' => yaq.pure ⟨p, hp, by rw [hp']⟩
   unfold fieldPlace
   refine yaq.bind' (size_ends _) fun m hm => ?_
   rw [hsz] at hm
   cases hm
   rw [if_neg hk]
   exact yaq.pure (by unfold Addr.add; rw [if_pos hoff])
 ·obtain ⟨p, h1, h2⟩ := hz
  exact ⟨p, h1, by rw [h2]⟩
theorem yyv {src dst u : TypeId} {x : Operand} {p : Addr} {t : TypeId} {n k : Nat} (h1 : Q.underlying src = some (.pointer u)) (h2 : Q.underlying dst = some .unsafePointer) (hsz : (Q.info? u).map (·.size) = some k) (hk : k ≠ 0) (hop : o.op = .convert src dst x) (hx : ρ x = .pointer (some p)) {v v' : World} {a : Next} (hc : v.shape? p.block = some (t, n)) (hoff : p.off < n)
  (h : (execOp ρ o).run Q v = .ok a v') : a = .value (.pointer (some p)) ∧ v' = v := by
 have hconv : yaq Q (fun z => True) (convert src dst (ρ x)) := fun _ _ _ _ => trivial
 unfold execOp at h
 rw [hop] at h
 dsimp only at h
 rw [hx] at h
 change ((convert src dst (.pointer (some p))).bind fun z => Sem.pure (Next.value z)).run Q v = _ at h
 have hu : ∀ t d, Q.underlying t = some d → (underlying t).run Q v = .ok d v := fun t d hq => by
  change (match Q.underlying t with | some d => (Pure.pure d : Sem TypeDesc) | none => stuck "no such type").run Q v = _
  rw [hq]
  rfl
 have hz : (sizeOf u).run Q v = .ok k v := by
  unfold sizeOf
  change ((typeInfo u).bind fun i => Sem.pure i.size).run Q v = _
  cases hq : Q.info? u with
  |none => rw [hq] at hsz; cases hsz
  |some i =>
   rw [hq] at hsz
   have : (typeInfo u).run Q v = .ok i v := by
    change (match Q.info? u with | some d => (Pure.pure d : Sem TypeInfo) | none => stuck "no such type").run Q v = _
    rw [hq]
    rfl
   rw [run_bind, this]
   simp only [Option.map_some, Option.some.injEq] at hsz
   rw [← hsz]
   rfl
 have hun : (Conv.unsafePointer src dst (.pointer (some p))).run Q v = .ok (.pointer (some p)) v := by
  unfold Conv.unsafePointer
  change ((underlying src).bind fun d => (underlying dst).bind fun e => _).run Q v = _
  rw [run_bind, hu src _ h1]
  dsimp only
  rw [run_bind, hu dst _ h2]
  dsimp only
  change ((Conv.seenAt p).bind fun s => _).run Q v = _
  rw [run_bind, (yvr (P := Q) hc).1]
  dsimp only
  change ((cellsIn p.block).bind fun c => _).run Q v = _
  rw [run_bind, (yow (P := Q) hc).1]
  dsimp only
  change ((sizeOf u).bind fun m => _).run Q v = _
  rw [run_bind, hz]
  dsimp only
  rw [if_neg (by simp [hk]; intro q; omega)]
  rfl
 have hcv : (convert src dst (.pointer (some p))).run Q v = .ok (.pointer (some p)) v := by
  unfold convert
  change ((underlying src).bind fun d => (underlying dst).bind fun e => _).run Q v = _
  rw [run_bind, hu src _ h1]
  dsimp only
  rw [run_bind, hu dst _ h2]
  exact hun
 rw [run_bind, hcv] at h
 simp only [Sem.run, Result.ok.injEq] at h
 exact ⟨h.1.symm, h.2.symm⟩
theorem same_val {f : Nat} {fn : Func} (hQ : Q.funcs[f]? = some fn) (h2 : (fn.name == "runtime.NumGoroutine") = false) (h1 : fn.body.isNone = true) (h3 : Extern.findNext fn = none) (h4 : Extern.find fn = some Extern.AbiNoEscape.same) {x : Value} {v v' : World} {a : Next} (e : (callFunc f #[x]).run Q v = .ok a v') : a = .value x ∧ v' = v := by
 change (Sem.program fun p => match p.funcs[f]? with
  |none => stuck "call: no such function"
  |some fn => _).run Q v = _ at e
 simp only [Sem.run, hQ] at e
 rw [h2, h1] at e
 change (Sem.mark (.extern f) _).run Q v = _ at e
 simp only [Sem.run] at e
 rw [h3, h4] at e
 cases e
 exact ⟨rfl, rfl⟩
theorem load_value {t : TypeId} {x : Operand} (hop : o.op = .load t x) : yaq Q (fun a => ∃ z, a = .value z) (execOp ρ o) := by
 unfold execOp
 rw [hop]
 exact yaq.bind fun z => yaq.pure ⟨z, rfl⟩
theorem yxc {x : Operand} (hop : o.op = .move x) {v v' : World} {a : Next} (h : (execOp ρ o).run Q v = .ok a v') : v' = v := by
 unfold execOp at h
 rw [hop] at h
 cases h
 rfl
theorem eql_keep {t e t' : TypeId} {x y : Operand} (ht : Q.underlying t = some (.pointer e)) (hop : o.op = .binOp .eql t x y t') (hx : ρ x = .pointer none) (hy : ρ y = .pointer none) {v v' : World} {a : Next} (h : (execOp ρ o).run Q v = .ok a v') : v' = v := by
 unfold execOp at h
 rw [hop] at h
 dsimp only at h
 rw [hx, hy] at h
 change (((eqGuard .eql t x y (.pointer none) (.pointer none)).bind fun _ => (Op.equalIn (9999 + 1) t (.pointer none) (.pointer none)).bind fun b => Sem.pure (Value.bool b)).bind fun z => Sem.pure (Next.value z)).run Q v = _ at h
 have hg : (eqGuard .eql t x y (.pointer none) (.pointer none)).run Q v = .ok () v := rfl
 have hu : (underlying t).run Q v = .ok (.pointer e) v := by
  change (match Q.underlying t with | some d => (Pure.pure d : Sem TypeDesc) | none => stuck "no such type").run Q v = _
  rw [ht]
  rfl
 have he : (Op.equalIn (9999 + 1) t (.pointer none) (.pointer none)).run Q v = .ok true v := by
  unfold Op.equalIn
  change ((underlying t).bind fun k => _).run Q v = _
  rw [run_bind, hu]
  rfl
 rw [run_bind, run_bind, hg] at h
 dsimp only at h
 rw [run_bind, he] at h
 cases h
 rfl
theorem load_keep {t : TypeId} {x : Operand} (hop : o.op = .load t x) {p : Addr} (hx : ρ x = .pointer (some p)) {e : TypeId} (ht : Q.underlying t = some (.pointer e)) {v v' : World} {a : Next} (h : (execOp ρ o).run Q v = .ok a v') : v' = v := by
 unfold execOp at h
 rw [hop] at h
 dsimp only at h
 rw [hx] at h
 change ((loadVar t p).bind fun z => Sem.pure (Next.value z)).run Q v = _ at h
 have hl : loadVar t p = (isAgg t).bind fun b => if b then _ else load p := rfl
 have ha : (isAgg t).run Q v = .ok false v := by
  unfold isAgg
  change ((underlying t).bind fun d => _).run Q v = _
  have hu : (underlying t).run Q v = .ok (.pointer e) v := by
   change (match Q.underlying t with | some d => (Pure.pure d : Sem TypeDesc) | none => stuck "no such type").run Q v = _
   rw [ht]
   rfl
  rw [run_bind, hu]
  rfl
 rw [run_bind, hl, run_bind, ha] at h
 dsimp only at h
 rw [if_neg (by decide)] at h
 split at h
 ·next z v1 hz =>
  cases h
  change (Sem.load .plain p fun z => Sem.pure z).run Q v = _ at hz
  simp only [Sem.run] at hz
  split at hz
  ·cases hz; rfl
  ·split at hz
   ·cases hz; rfl
   ·cases hz
 ·cases h
theorem call_one {f : Nat} {x : Operand} {ts : Array TypeId} (hop : o.op = .call { callee := .value (.func f), args := #[x], argTypes := ts }) (hρ : ρ (.func f) = .func (.func f) #[] #[]) : execOp ρ o = callFunc f #[ρ x] := by
 unfold execOp
 rw [hop]
 dsimp only
 unfold resolve
 dsimp only
 rw [hρ]
 have : (#[] ++ #[x].map ρ) ++ #[] = #[ρ x] := by simp
 show callFunc f ((#[] ++ #[x].map ρ) ++ #[]) = _
 rw [this]
theorem ypi {P : Program} {X : Nat → Prop} {L : Lim} {w v : World} {es : Array Event} (hT : P.toTables = Q.toTables) {Esc : Next → Prop} (h : Rel X L w v) {a : Addr} (hX : ¬ X a.block) {y : TypeId × Nat} (hc : v.shape? a.block = some y) {src dst : TypeId} {x : Operand} (hop : o.op = .convert src dst x) (hx : ρ x = .pointer (some a)) (ht : Q.underlying src = some .unsafePointer ∨ Q.underlying dst = some .unsafePointer) :
  ybj X L Esc w es ((execOp ρ o).runT P w es) ((execOp ρ o).run Q v) := by
 unfold execOp
 rw [hop]
 dsimp only
 rw [hx]
 refine ybj.bind ?_ fun _ => yaa.pure _
 unfold convert
 refine ycm hT fun d hd => ycm hT fun e he => ?_
 rcases ht with ht | ht
 ·rw [ht] at hd
  cases hd
  cases e <;> exact ynr hT h hX hc _ _
 ·rw [ht] at he
  cases he
  cases d <;> exact ynr hT h hX hc _ _
end
end Go.Sim

namespace Go.Sim
open Go.Conc Go.RowKit
section
variable {P Q : Program} {Stop : Frame → World → Prop} {Z D : Nat → Prop} {F : Nat} {fn : Func}
structure CopyLike (Q : Program) (fn : Func) (tP tB tU : TypeId) (fE : Nat) (i0 i1 : Nat) (o0 o1 o2 o3 o4 q0 q1 q2 q3 q4 q5 q6 q7 : Oper) (els : Code) : Prop where
 body : fn.body = some ((Code.region i0 #[o0, o1, o2, o3, o4] false).seq (Code.cond (.tmp 6) (Code.region i1 #[q0, q1, q2, q3, q4, q5, q6, q7] false) els))
 tmps : 20 ≤ fn.ntmps
 els : ybe (ydo Q) els = true
 g0 : o0.guard = none ∧ o0.op = .move (.tmp 0) ∧ o0.dst = some 2
 g1 : o1.guard = none ∧ o1.op = .nilCheck (.tmp 2) ∧ o1.dst = some 3
 g2 : o2.guard = none ∧ o2.op = .fieldAddr tB (.tmp 3) 0 ∧ o2.dst = some 4
 g3 : o3.guard = none ∧ o3.op = .load tP (.tmp 4) ∧ o3.dst = some 5
 g4 : o4.guard = none ∧ o4.op = .binOp .eql tP (.tmp 5) (.const (.pointer none)) tP ∧ o4.dst = some 6
 k0 : q0.guard = none ∧ q0.op = .move (.tmp 0) ∧ q0.dst = some 7
 k1 : q1.guard = none ∧ q1.op = .move (.tmp 0) ∧ q1.dst = some 8
 k2 : q2.guard = none ∧ q2.op = .convert tP tU (.tmp 8) ∧ q2.dst = some 9
 k3 : q3.guard = none ∧ (∃ ts, q3.op = .call { callee := .value (.func fE), args := #[.tmp 9], argTypes := ts }) ∧ q3.dst = some 10
 k4 : q4.guard = none ∧ q4.op = .convert tU tP (.tmp 10) ∧ q4.dst = some 11
 k5 : q5.guard = none ∧ q5.op = .nilCheck (.tmp 7) ∧ q5.dst = some 12
 k6 : q6.guard = none ∧ q6.op = .fieldAddr tB (.tmp 12) 0 ∧ q6.dst = some 13
 k7 : q7.guard = none ∧ q7.op = .store tP (.tmp 13) (.tmp 11) ∧ q7.dst = none
 hP : Q.underlying tP = some (.pointer tB)
 hU : Q.underlying tU = some .unsafePointer
 hB : ∃ fields f k m, Q.underlying tB = some (.struct fields) ∧ fields[0]? = some f ∧ f.offset = 0 ∧ (Q.info? f.type).map (·.size) = some k ∧ k ≠ 0 ∧ (Q.info? tB).map (·.size) = some m ∧ m ≠ 0
 hE : ∃ fnE, Q.funcs[fE]? = some fnE ∧ (fnE.name == "runtime.NumGoroutine") = false ∧ fnE.body.isNone = true ∧ Extern.findNext fnE = none ∧ Extern.find fnE = some Extern.AbiNoEscape.same
theorem yfs.cell {X : Nat → Prop} {w v : World} (h : yfs X w v) {a : Addr} {x : Value} (hc : v.cell? a = some x) : ¬ X a.block ∧ w.cell? a = some x := by
 have := (h.rel 0).cell (a := a) (x := x) hc
 exact ⟨this.2.1, this.1⟩
theorem cell_shape {w : World} {a : Addr} {x : Value} (h : w.cell? a = some x) : ∃ t n, w.shape? a.block = some (t, n) ∧ a.off < n := by
 unfold World.cell? at h
 unfold World.shape?
 split at h
 ·next c t z hw =>
  refine ⟨t, c.size, rfl, ?_⟩
  split at h
  ·cases h
  ·exact (Array.getElem?_eq_some_iff.1 h).1
 ·cases h
theorem yfs.cell_of {X : Nat → Prop} {w v : World} (h : yfs X w v) {a : Addr} (hX : ¬ X a.block) {x : Value} (hc : w.cell? a = some x) : v.cell? a = some x := by
 have hs := h.same _ hX
 unfold World.cell? at hc ⊢
 rw [hs]
 split at hc
 ·next c t z hw =>
  rw [hw]
  exact hc
 ·cases hc
theorem yfs.onward {X : Nat → Prop} {w w' v : World} (h : yfs X w v) (h' : yfs X w' v) {a : Addr} (hX : ¬ X a.block) (hc : ∃ x, w.cell? a = some x) : ∃ x, w'.cell? a = some x := by
 obtain ⟨x, hx⟩ := hc
 exact ⟨x, (h'.cell (h.cell_of hX hx)).2⟩
theorem phaseCopy (T : yqz P Q (ydo Q) (fun _ => True) Z D yca) (hP : P.funcs[F]? = some fn) (hQ : Q.funcs[F]? = some fn) {tP tB tU : TypeId} {fE i0 i1 : Nat} {o0 o1 o2 o3 o4 q0 q1 q2 q3 q4 q5 q6 q7 : Oper} {els : Code}
  (C : CopyLike Q fn tP tB tU fE i0 i1 o0 o1 o2 o3 o4 q0 q1 q2 q3 q4 q5 q6 q7 els) (W : World) : ytk P Q Stop W F := by
 intro s args cf inner ht hok hfr hin hcs ih X Shun c w hc hS hSm hKp
 obtain ⟨sfr, sinner, sv⟩ := s
 simp only at hfr hin hSm
 subst hin
 rw [enter_at args hQ C.body] at hfr
 subst hfr
 rw [enter_at args hP C.body]
 generalize ha0 : ({ tmps := args ++ Array.replicate (fn.ntmps - args.size) undef, defers := [] } : Act) = a0 at *
 have hsz : 20 ≤ a0.tmps.size := by rw [← ha0]; have := C.tmps; simp; omega
 generalize hs0 : (⟨(base F).at a0 [.code ((Code.region i0 #[o0, o1, o2, o3, o4] false).seq (Code.cond (.tmp 6) (Code.region i1 #[q0, q1, q2, q3, q4, q5, q6, q7] false) els))], cf :: inner, sv⟩ : Sta) = s0 at *
 have hlen : s0.inner = cf :: inner := by rw [← hs0]
 rw [hlen]
 have hq : QAt Q Stop ⟨s0, W⟩ X w ((base F).at a0 [.code ((Code.region i0 #[o0, o1, o2, o3, o4] false).seq (Code.cond (.tmp 6) (Code.region i1 #[q0, q1, q2, q3, q4, q5, q6, q7] false) els))]) (cf :: inner) :=
  ⟨sv, ⟨by rw [hs0]; exact ht, by rw [hs0]; exact hok, .inl hs0⟩, hSm, hKp⟩
 have hI : ydc c (fun T B => Past Shun B T) := yhf
 have hF : yfq X (fun T B => Past Shun B T) := fun T B B' fn pos es h hB he => yjo hS h hB he fn pos
 have ops : ∀ (a : Act) (o : Oper), ydo Q o.op = true → ∀ (w : World) (d : Nat) (L : Lim) (v : World), Rel X L (w.at d) v → ybj X L (EscZ Z) (w.at d) #[] ((execOp a.eval o).runT P (w.at d) #[]) ((execOp a.eval o).run Q v) := by
  intro a o ho w d L v hR
  have := T.ops X ((base F).at a []) o ho
  rw [Frame.eval_at'] at this
  exact this L (w.at d) v #[] hR
 -- handing back
 have back : ∀ (a : Act) (k : List Item) (w : World), ybp (ydo Q) k = true → k ≠ [.code ((Code.region i0 #[o0, o1, o2, o3, o4] false).seq (Code.cond (.tmp 6) (Code.region i1 #[q0, q1, q2, q3, q4, q5, q6, q7] false) els))] → QAt Q Stop ⟨s0, W⟩ X w ((base F).at a k) (cf :: inner) → yat P (Ended P Stop W) c (fun T B => Past Shun B T) (gor ((base F).at a k) (cf :: inner)) w := by
  intro a k w hk hne hq
  obtain ⟨v, hBel, hSm', hKp'⟩ := hq
  have hlt : Relation.TransGen (Down Q) ⟨(base F).at a k, cf :: inner, v⟩ s0 := hBel.2.2.resolve_left fun e => by
   rw [← hs0] at e
   exact hne (congrArg (fun s => s.fr.todo) e)
  exact ih _ hlt hBel.1 hBel.2.1 ⟨⟨hk, hBel.2.1.fr.defers, hBel.2.1.fr.kind, hBel.2.1.fr.round, hBel.2.1.fr.fn, hBel.2.1.fr.inn⟩, hcs⟩ X Shun c w hc hS hSm' hKp'
 obtain ⟨fields, f, k, m, b1, b2, b3, b4, b5, b6, b7⟩ := C.hB
 have psz : ∀ (a : Act) (d : Option Nat) (x : Value), (a.put d x).tmps.size = a.tmps.size := fun a d x => by unfold Act.put; split <;> simp
 refine yat.ctrl hI (fun _ => stepG_seq) fun d => ?_
 replace hq := (QAt.at hq d).seq
 generalize w.at d = w at hq ⊢
 refine yat.ctrl hI (fun _ => stepG_region) fun d => ?_
 replace hq := (QAt.at hq d).region
 generalize w.at d = w at hq ⊢
 -- region 0
 refine yat.opG (Z := Z) hI hF hq rfl rfl (show #[o0, o1, o2, o3, o4][0]? = some o0 from rfl) C.g0.1 (show #[o0, o1, o2, o3, o4][0]? = some o0 from rfl) C.g0.1 rfl (ops a0 o0 (by rw [C.g0.2.1]; rfl) w) (yef (by rw [C.g0.2.1]; rfl)) fun x2 w hg hq hv => ?_
 have e2 : x2 = a0.eval (.tmp 0) := by obtain ⟨v, v', a, _, _, hr, hx⟩ := hv; exact yog C.g0.2.1 hr hx
 rw [C.g0.2.2] at hq ⊢
 generalize hA1 : a0.put (some 2) x2 = a1 at hq ⊢
 have z1 : 20 ≤ a1.tmps.size := by rw [← hA1, psz]; exact hsz
 have t10 : a1.eval (.tmp 0) = a0.eval (.tmp 0) := by rw [← hA1]; exact yae (by decide) _
 have t12 : a1.eval (.tmp 2) = a0.eval (.tmp 0) := by rw [← hA1, yaj (by omega)]; exact e2
 refine yat.opG (Z := Z) hI hF hq rfl rfl (show #[o0, o1, o2, o3, o4][1]? = some o1 from rfl) C.g1.1 (show #[o0, o1, o2, o3, o4][1]? = some o1 from rfl) C.g1.1 rfl (ops a1 o1 (by rw [C.g1.2.1]; rfl) w) (ytv (yjk C.g1.2.1) fun a ha => .inl ⟨_, ha⟩) fun x3 w hg hq hv => ?_
 have e3 : x3 = a0.eval (.tmp 0) := by
  obtain ⟨v, v', a, _, _, hr, hx⟩ := hv
  have := yjk C.g1.2.1 _ _ _ hr
  subst this
  rcases hx with hx | hx
  ·cases hx; exact t12
  ·cases hx
 rw [C.g1.2.2] at hq ⊢
 generalize hA2 : a1.put (some 3) x3 = a2 at hq ⊢
 have z2 : 20 ≤ a2.tmps.size := by rw [← hA2, psz]; exact z1
 have t20 : a2.eval (.tmp 0) = a0.eval (.tmp 0) := by rw [← hA2, yae (by decide)]; exact t10
 have t23 : a2.eval (.tmp 3) = a0.eval (.tmp 0) := by rw [← hA2, yaj (by omega)]; exact e3
 refine yat.opG (Z := Z) hI hF hq rfl rfl (show #[o0, o1, o2, o3, o4][2]? = some o2 from rfl) C.g2.1 (show #[o0, o1, o2, o3, o4][2]? = some o2 from rfl) C.g2.1 rfl (ops a2 o2 (by rw [C.g2.2.1]; rfl) w) (ytv (ywo C.g2.2.1) fun a ha => by obtain ⟨_, _, _, ha, _⟩ := ha; exact .inl ⟨_, ha⟩) fun x4 w hg hq hv => ?_
 obtain ⟨p, hp, e4⟩ : ∃ p, a0.eval (.tmp 0) = .pointer (some p) ∧ x4 = .pointer (some p) := by
  obtain ⟨v, v', a, _, _, hr, hx⟩ := hv
  obtain ⟨p, h1, h2⟩ := field_self b1 b2 b3 b4 b5 C.g2.2.1 _ _ _ hr
  subst h2
  rcases hx with hx | hx
  ·cases hx; exact ⟨p, t23.symm.trans h1, rfl⟩
  ·cases hx
 subst e4
 rw [C.g2.2.2] at hq ⊢
 generalize hA3 : a2.put (some 4) (.pointer (some p)) = a3 at hq ⊢
 have z3 : 20 ≤ a3.tmps.size := by rw [← hA3, psz]; exact z2
 have t30 : a3.eval (.tmp 0) = .pointer (some p) := by rw [← hA3, yae (by decide), t20]; exact hp
 have t34 : a3.eval (.tmp 4) = .pointer (some p) := by rw [← hA3, yaj (by omega)]
 refine yat.opG (Z := Z) hI hF hq rfl rfl (show #[o0, o1, o2, o3, o4][3]? = some o3 from rfl) C.g3.1 (show #[o0, o1, o2, o3, o4][3]? = some o3 from rfl) C.g3.1 rfl (ops a3 o3 (by rw [C.g3.2.1]; rfl) w) (yef (by rw [C.g3.2.1]; rfl)) fun x5 w4 hg5 hq hv => ?_
 -- where nil was read, a cell was there
 have cell5 : x5 = .pointer none → ¬ X p.block ∧ ∃ y, w4.cell? p = some y := by
  rintro rfl
  obtain ⟨v, v', a, hs1, hs2, hr, hx⟩ := hv
  obtain ⟨z, rfl⟩ := load_value C.g3.2.1 _ _ _ hr
  rcases hx with hx | hx
  ·cases hx
   obtain ⟨p', y, h1, h2⟩ := load_val C.g3.2.1 hr
   rw [t34] at h1
   cases h1
   have := load_keep C.g3.2.1 t34 C.hP hr
   subst this
   have h3 := hs2.cell h2
   exact ⟨h3.1, y, h3.2⟩
  ·cases hx
 clear hv hg5 hg
 rw [C.g3.2.2] at hq ⊢
 generalize hA4 : a3.put (some 5) x5 = a4 at hq ⊢
 have z4 : 20 ≤ a4.tmps.size := by rw [← hA4, psz]; exact z3
 have t40 : a4.eval (.tmp 0) = .pointer (some p) := by rw [← hA4, yae (by decide)]; exact t30
 have t45 : a4.eval (.tmp 5) = x5 := by rw [← hA4, yaj (by omega)]
 refine yat.opG (Z := Z) hI hF hq rfl rfl (show #[o0, o1, o2, o3, o4][4]? = some o4 from rfl) C.g4.1 (show #[o0, o1, o2, o3, o4][4]? = some o4 from rfl) C.g4.1 rfl (ops a4 o4 (by rw [C.g4.2.1]; rfl) w4) (yef (by rw [C.g4.2.1]; rfl)) fun x6 w5 hg6 hq hv => ?_
 have cell6 : x6 = .bool true → ¬ X p.block ∧ ∃ y, w5.cell? p = some y := by
  rintro rfl
  obtain ⟨v, v', a, hs1, hs2, hr, hx⟩ := hv
  rcases hx with hx | hx
  ·subst hx
   have h5 := eql_nil C.hP C.g4.2.1 rfl hr
   have hk := eql_keep C.hP C.g4.2.1 h5 rfl hr
   rw [t45] at h5
   obtain ⟨c1, c2⟩ := cell5 h5
   subst hk
   exact ⟨c1, hs1.onward hs2 c1 c2⟩
  ·exfalso
   subst hx
   have hend : yaq Q (fun a => ∃ z, a = .value z) (execOp a4.eval o4) := by
    unfold execOp
    rw [C.g4.2.1]
    exact yaq.bind fun z => yaq.pure ⟨z, rfl⟩
   obtain ⟨z, hz⟩ := hend _ _ _ hr
   cases hz
 clear hv hg6 cell5
 rw [C.g4.2.2] at hq ⊢
 generalize hA5 : a4.put (some 6) x6 = a5 at hq ⊢
 have z5 : 20 ≤ a5.tmps.size := by rw [← hA5, psz]; exact z4
 have t50 : a5.eval (.tmp 0) = .pointer (some p) := by rw [← hA5, yae (by decide)]; exact t40
 have t56 : a5.eval (.tmp 6) = x6 := by rw [← hA5, yaj (by omega)]
 replace hq := hq.regionEnd
 refine yat.ctrl hI (fun _ => stepG_region_end) fun d => ?_
 replace hq := QAt.at hq d
 obtain ⟨t, et, hq⟩ := hq.cond
 refine yat.ctrl hI (fun _ => stepG_cond et) fun d' => ?_
 replace hq := QAt.at hq d'
 cases t with
 |false =>
  refine back _ _ _ ?_ ?_ hq
  ·show ybp (ydo Q) [.code els] = true
   simp [ybp, ykm, C.els]
  ·intro e
   simp only [Bool.false_eq_true, if_false, List.cons.injEq, Item.code.injEq, and_true] at e
   have h2 := congrArg (SizeOf.sizeOf : Code → Nat) e
   simp only [Code.seq.sizeOf_spec, Code.cond.sizeOf_spec] at h2
   omega
 |true =>
  rw [t56] at et
  obtain ⟨hX, hcell⟩ := cell6 et
  have hcell' : ∃ y, ((w5.at d).at d').cell? p = some y := hcell
  clear hcell cell6
  generalize (w5.at d).at d' = w at hq hcell' ⊢
  refine yat.ctrl hI (fun _ => stepG_region) fun d => ?_
  replace hq := (QAt.at hq d).region
  replace hcell' : ∃ y, (w.at d).cell? p = some y := hcell'
  generalize w.at d = w at hq hcell' ⊢
  refine yat.opG (Z := Z) hI hF hq rfl rfl (show #[q0, q1, q2, q3, q4, q5, q6, q7][0]? = some q0 from rfl) C.k0.1 (show #[q0, q1, q2, q3, q4, q5, q6, q7][0]? = some q0 from rfl) C.k0.1 rfl (ops a5 q0 (by rw [C.k0.2.1]; rfl) w) (yef (by rw [C.k0.2.1]; rfl)) fun x7 w1 hg hq hv => ?_
  obtain ⟨e7, hc7⟩ : x7 = .pointer (some p) ∧ ∃ y, w1.cell? p = some y := by
   obtain ⟨v, v', a, hs1, hs2, hr, hx⟩ := hv
   have := yxc C.k0.2.1 hr
   subst this
   exact ⟨(yog C.k0.2.1 hr hx).trans t50, hs1.onward hs2 hX hcell'⟩
  clear hv hg hcell'
  rw [C.k0.2.2] at hq ⊢
  generalize hA6 : a5.put (some 7) x7 = a6 at hq ⊢
  have z6 : 20 ≤ a6.tmps.size := by rw [← hA6, psz]; exact z5
  have t60 : a6.eval (.tmp 0) = .pointer (some p) := by rw [← hA6, yae (by decide)]; exact t50
  refine yat.opG (Z := Z) hI hF hq rfl rfl (show #[q0, q1, q2, q3, q4, q5, q6, q7][1]? = some q1 from rfl) C.k1.1 (show #[q0, q1, q2, q3, q4, q5, q6, q7][1]? = some q1 from rfl) C.k1.1 rfl (ops a6 q1 (by rw [C.k1.2.1]; rfl) w1) (yef (by rw [C.k1.2.1]; rfl)) fun x8 w2 hg hq hv => ?_
  obtain ⟨e8, hc8⟩ : x8 = .pointer (some p) ∧ ∃ y, w2.cell? p = some y := by
   obtain ⟨v, v', a, hs1, hs2, hr, hx⟩ := hv
   have := yxc C.k1.2.1 hr
   subst this
   exact ⟨(yog C.k1.2.1 hr hx).trans t60, hs1.onward hs2 hX hc7⟩
  clear hv hg hc7
  rw [C.k1.2.2] at hq ⊢
  generalize hA7 : a6.put (some 8) x8 = a7 at hq ⊢
  have z7 : 20 ≤ a7.tmps.size := by rw [← hA7, psz]; exact z6
  have t78 : a7.eval (.tmp 8) = .pointer (some p) := by rw [← hA7, yaj (by omega)]; exact e8
  -- an unsafe pointer
  have shp : ∀ {w v : World}, yfs X w v → (∃ y, w.cell? p = some y) → ∃ t n, v.shape? p.block = some (t, n) ∧ p.off < n := fun hs hc => by
   obtain ⟨y, hy⟩ := hc
   exact cell_shape (hs.cell_of hX hy)
  refine yat.opG (Z := Z) hI hF hq rfl rfl (show #[q0, q1, q2, q3, q4, q5, q6, q7][2]? = some q2 from rfl) C.k2.1 (show #[q0, q1, q2, q3, q4, q5, q6, q7][2]? = some q2 from rfl) C.k2.1 rfl (fun d L v hR => ?_) ?_ fun x9 w3 hg hq hv => ?_
  ·obtain ⟨t, n, h1, _⟩ := shp (w := w2.at d) hR.world hc8
   exact ypi T.tables hR hX h1 C.k2.2.1 t78 (.inr C.hU)
  ·unfold execOp
   rw [C.k2.2.1]
   exact ydq
  obtain ⟨e9, hc9⟩ : x9 = .pointer (some p) ∧ ∃ y, w3.cell? p = some y := by
   obtain ⟨v, v', a, hs1, hs2, hr, hx⟩ := hv
   obtain ⟨t, n, h1, h2⟩ := shp hs1 hc8
   obtain ⟨rfl, rfl⟩ := yyv C.hP C.hU b6 b7 C.k2.2.1 t78 h1 h2 hr
   rcases hx with hx | hx
   ·cases hx; exact ⟨rfl, hs1.onward hs2 hX hc8⟩
   ·cases hx
  clear hv hg hc8
  rw [C.k2.2.2] at hq ⊢
  generalize hA8 : a7.put (some 9) x9 = a8 at hq ⊢
  have z8 : 20 ≤ a8.tmps.size := by rw [← hA8, psz]; exact z7
  have t89 : a8.eval (.tmp 9) = .pointer (some p) := by rw [← hA8, yaj (by omega)]; exact e9
  -- the library's function
  obtain ⟨ts, k3op⟩ := C.k3.2.1
  obtain ⟨fnE, n1, n2, n3, n4, n5⟩ := C.hE
  have k3e : execOp a8.eval q3 = callFunc fE #[.pointer (some p)] := by rw [call_one k3op rfl, t89]
  refine yat.opG (Z := Z) hI hF hq rfl rfl (show #[q0, q1, q2, q3, q4, q5, q6, q7][3]? = some q3 from rfl) C.k3.1 (show #[q0, q1, q2, q3, q4, q5, q6, q7][3]? = some q3 from rfl) C.k3.1 rfl (ops a8 q3 (by rw [k3op]; rfl) w3) ?_ fun x10 w4 hg hq hv => ?_
  ·rw [k3e]
   intro v a v' hr
   exact .inl ⟨_, (same_val n1 n2 n3 n4 n5 hr).1⟩
  obtain ⟨e10, hc10⟩ : x10 = .pointer (some p) ∧ ∃ y, w4.cell? p = some y := by
   obtain ⟨v, v', a, hs1, hs2, hr, hx⟩ := hv
   rw [k3e] at hr
   obtain ⟨rfl, rfl⟩ := same_val n1 n2 n3 n4 n5 hr
   rcases hx with hx | hx
   ·cases hx; exact ⟨rfl, hs1.onward hs2 hX hc9⟩
   ·cases hx
  clear hv hg hc9
  rw [C.k3.2.2] at hq ⊢
  generalize hA9 : a8.put (some 10) x10 = a9 at hq ⊢
  have t910 : a9.eval (.tmp 10) = .pointer (some p) := by rw [← hA9, yaj (by omega)]; exact e10
  -- and back
  refine yat.opG (Z := Z) hI hF hq rfl rfl (show #[q0, q1, q2, q3, q4, q5, q6, q7][4]? = some q4 from rfl) C.k4.1 (show #[q0, q1, q2, q3, q4, q5, q6, q7][4]? = some q4 from rfl) C.k4.1 rfl (fun d L v hR => ?_) ?_ fun x11 w5 hg hq hv => ?_
  ·obtain ⟨t, n, h1, _⟩ := shp (w := w4.at d) hR.world hc10
   exact ypi T.tables hR hX h1 C.k4.2.1 t910 (.inl C.hU)
  ·unfold execOp
   rw [C.k4.2.1]
   exact ydq
  clear hv hg
  refine yat.opG (Z := Z) hI hF hq rfl rfl (show #[q0, q1, q2, q3, q4, q5, q6, q7][5]? = some q5 from rfl) C.k5.1 (show #[q0, q1, q2, q3, q4, q5, q6, q7][5]? = some q5 from rfl) C.k5.1 rfl (ops _ q5 (by rw [C.k5.2.1]; rfl) w5) (ytv (yjk C.k5.2.1) fun a ha => .inl ⟨_, ha⟩) fun x12 w6 hg hq hv => ?_
  clear hv hg
  refine yat.opG (Z := Z) hI hF hq rfl rfl (show #[q0, q1, q2, q3, q4, q5, q6, q7][6]? = some q6 from rfl) C.k6.1 (show #[q0, q1, q2, q3, q4, q5, q6, q7][6]? = some q6 from rfl) C.k6.1 rfl (ops _ q6 (by rw [C.k6.2.1]; rfl) w6) (ytv (ywo C.k6.2.1) fun a ha => by obtain ⟨_, _, _, ha, _⟩ := ha; exact .inl ⟨_, ha⟩) fun x13 w7 hg hq hv => ?_
  clear hv hg
  refine yat.opG (Z := Z) hI hF hq rfl rfl (show #[q0, q1, q2, q3, q4, q5, q6, q7][7]? = some q7 from rfl) C.k7.1 (show #[q0, q1, q2, q3, q4, q5, q6, q7][7]? = some q7 from rfl) C.k7.1 rfl (ops _ q7 (by rw [C.k7.2.1]; rfl) w7) (yef (by rw [C.k7.2.1]; rfl)) fun x14 w8 hg hq hv => ?_
  clear hv hg
  replace hq := hq.regionEnd
  refine yat.ctrl hI (fun _ => stepG_region_end) fun d => ?_
  replace hq := QAt.at hq d
  exact back _ _ _ rfl (by simp) hq
end
end Go.Sim
#print axioms Go.Sim.phaseCopy
