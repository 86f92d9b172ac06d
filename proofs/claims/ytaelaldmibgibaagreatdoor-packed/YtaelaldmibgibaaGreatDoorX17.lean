/- Every operation of a checked text is done alike: all togethe. -/
import Derived.Test.YtaelaldmibgibaaGreatDoorX16

set_option linter.all false
set_option maxHeartbeats 2000000

namespace Go.Sim
variable {P Q : Program} {X : Nat → Prop}
theorem zew (hT : P.toTables = Q.toTables) {Esc : Nat → Prop} (v : Value) (y : Nat) (c : BoundsCode) : yaa P Q X Esc (Instr.sliceBound v y c) := by
 unfold Instr.sliceBound
 (repeat' first
  |exact yaa.pure _
  |with_reducible first | assumption | apply zaj | apply zao
  |refine yaa.bind ?_ (fun _ => ?_)
  |split
  |dsimp only)
theorem zex (hT : P.toTables = Q.toTables) {Esc : Nat × Nat × Nat → Prop} (b : Bool) (l c : Nat) (lo hi mx : Option Value) : yaa P Q X Esc (Instr.sliceBounds b l c lo hi mx) := by
 unfold Instr.sliceBounds
 (repeat' first
  |exact yaa.pure _
  |exact yaa.halt _
  |with_reducible first | assumption | apply zew | refine zef ?_
  |refine yaa.bind ?_ (fun _ => ?_)
  |split
  |dsimp only)
theorem zeu (hT : P.toTables = Q.toTables) {Esc : Value → Prop} (t : TypeId) (x : Value) (lo hi mx : Option Value) : yaa P Q X Esc (Instr.slice t x lo hi mx) := by
 unfold Instr.slice
 (repeat' first
  |exact yaa.pure _
  |exact yaa.halt _
  |with_reducible first | assumption | apply zfo | apply zet | apply zaf | apply zex
  |refine yaa.bind ?_ (fun _ => ?_)
  |split
  |dsimp only)
theorem zcu (hT : P.toTables = Q.toTables) {Esc : Value → Prop} (t : TypeId) (v : Value) : yaa P Q X Esc (Instr.loadAt t v) := by
 unfold Instr.loadAt
 (repeat' first
  |unfold Instr.sureAddr
  |exact yaa.pure _
  |exact yaa.halt _
  |with_reducible first | assumption | apply zcy
  |refine yaa.bind ?_ (fun _ => ?_)
  |split
  |dsimp only)
theorem zfc (hT : P.toTables = Q.toTables) {Esc : Unit → Prop} (t : TypeId) (v x : Value) : yaa P Q X Esc (Instr.storeAt t v x) := by
 unfold Instr.storeAt
 (repeat' first
  |unfold Instr.sureAddr
  |exact yaa.pure _
  |exact yaa.halt _
  |with_reducible first | assumption | apply zfe
  |refine yaa.bind ?_ (fun _ => ?_)
  |split
  |dsimp only)
theorem zby (hT : P.toTables = Q.toTables) {Esc : Value → Prop} (t : TypeId) (v : Value) (f : Nat) : yaa P Q X Esc (Instr.fieldAt t v f) := by
 unfold Instr.fieldAt
 (repeat' first
  |unfold Instr.sureAddr | unfold fieldPlace | unfold partAt
  |exact yaa.pure _
  |exact yaa.halt _
  |with_reducible first | assumption | apply zfo | apply zet | apply zat
  |refine yaa.bind ?_ (fun _ => ?_)
  |split
  |dsimp only)
theorem zcn (hT : P.toTables = Q.toTables) {Esc : Value → Prop} (t : TypeId) (v x : Value) : yaa P Q X Esc (Instr.indexAt t v x) := by
 unfold Instr.indexAt
 (repeat' first
  |unfold Instr.sureAddr
  |exact yaa.pure _
  |exact yaa.halt _
  |with_reducible first | assumption | apply zfo | apply zet | apply zaj | apply zao | refine zef ?_
  |refine yaa.bind ?_ (fun _ => ?_)
  |split
  |dsimp only)
theorem zev (hT : P.toTables = Q.toTables) {Esc : Value → Prop} (t : TypeId) (x : Value) (lo hi mx : Option Value) : yaa P Q X Esc (Instr.sliceAt t x lo hi mx) := by
 unfold Instr.sliceAt
 (repeat' first
  |unfold Instr.sureAddr
  |exact yaa.pure _
  |exact yaa.halt _
  |with_reducible first | assumption | apply zfo | apply zet | apply zex | apply zeu
  |refine yaa.bind ?_ (fun _ => ?_)
  |split
  |dsimp only)
theorem zab (hT : P.toTables = Q.toTables) {Esc : Value → Prop} (t : TypeId) (b : Bool) (x : Value) : yaa P Q X Esc (Instr.alloc t b x) := by
 unfold Instr.alloc
 (repeat' first
  |exact yaa.pure _
  |with_reducible first | assumption | apply zfz | apply zfe | apply zds
  |refine yaa.bind ?_ (fun _ => ?_)
  |split
  |dsimp only)
theorem zap {Esc : Value → Prop} (t : TypeId) (x : Value) : yaa P Q X Esc (Instr.box t x) := by
 unfold Instr.box
 (repeat' first
  |exact yaa.pure _
  |with_reducible first | assumption | apply zds
  |refine yaa.bind ?_ (fun _ => ?_)
  |split
  |dsimp only)
theorem zar (hT : P.toTables = Q.toTables) {Esc : Value → Prop} (t : TypeId) (n : Nat) (x : Array (Nat × Value)) : yaa P Q X Esc (Instr.buildSlice t n x) := by
 unfold Instr.buildSlice
 (repeat' first
  |exact yaa.pure _
  |exact yaa.halt _
  |with_reducible first | assumption | apply zfo | apply zfz | apply zet | apply zdr | refine zef ?_
  |refine yaa.bind ?_ (fun _ => ?_)
  |split
  |dsimp only)
theorem zbw {Esc : Value → Prop} (x : Value) (n : Nat) : yaa P Q X Esc (Instr.extract x n) := by
 unfold Instr.extract
 (repeat' first
  |exact yaa.pure _
  |exact yaa.halt _
  |with_reducible assumption
  |split
  |dsimp only)
theorem zbx (hT : P.toTables = Q.toTables) {Esc : Value → Prop} (t : TypeId) (x : Value) (n : Nat) : yaa P Q X Esc (Instr.field t x n) := by
 unfold Instr.field
 (repeat' first
  |exact yaa.halt _
  |with_reducible first | assumption | apply zfo | apply zag | apply zec
  |refine yaa.bind ?_ (fun _ => ?_)
  |split
  |dsimp only)
theorem zcm (hT : P.toTables = Q.toTables) {Esc : Value → Prop} (t : TypeId) (x y : Value) : yaa P Q X Esc (Instr.index t x y) := by
 unfold Instr.index
 (repeat' first
  |exact yaa.pure _
  |exact yaa.halt _
  |with_reducible first | assumption | apply zfo | apply zet | apply zaj | apply zec | apply zao
  |refine yaa.bind ?_ (fun _ => ?_)
  |split
  |dsimp only)
theorem zda (hT : P.toTables = Q.toTables) {Esc : Value → Prop} (t : TypeId) (x : Value) : yaa P Q X Esc (Instr.makeInterface t x) := by
 unfold Instr.makeInterface
 (repeat' first
  |exact yaa.pure _
  |exact yaa.halt _
  |with_reducible first | assumption | apply zfo
  |refine yaa.bind ?_ (fun _ => ?_)
  |split
  |dsimp only)
theorem zdc (hT : P.toTables = Q.toTables) {Esc : Value → Prop} (t : TypeId) (x y : Value) : yaa P Q X Esc (Instr.makeSlice t x y) := by
 unfold Instr.makeSlice
 (repeat' first
  |exact yaa.pure _
  |exact yaa.halt _
  |with_reducible first | assumption | apply zfk | apply zfo | apply zfz | apply zet | apply zai | apply zem | apply zdr | apply zba | apply zak | refine zef ?_
  |refine yaa.bind ?_ (fun _ => ?_)
  |split
  |dsimp only)
theorem zdb (hT : P.toTables = Q.toTables) {Esc : Value → Prop} (t : TypeId) (r : Option Value) : yaa P Q X Esc (Instr.makeMap t r) := by
 unfold Instr.makeMap
 (repeat' first
  |exact yaa.pure _
  |exact yaa.halt _
  |with_reducible first | assumption | apply zfo | apply zai
  |((with_reducible refine zdq _ ?_); rfl)
  |refine yaa.bind ?_ (fun _ => ?_)
  |split
  |dsimp only)
theorem zfj (hT : P.toTables = Q.toTables) {Esc : Value → Prop} (x : Value) (t u : TypeId) (b : Bool) : yaa P Q X Esc (Instr.typeAssert x t u b) := by
 unfold Instr.typeAssert
 (repeat' first
  |exact yaa.pure _
  |exact yaa.halt _
  |with_reducible first | assumption | apply zfk | apply zfo | apply zfz | apply zem
  |refine yaa.bind ?_ (fun _ => ?_)
  |split
  |dsimp only)
theorem zcz (hT : P.toTables = Q.toTables) {Esc : Value → Prop} (t : TypeId) (x y : Value) (b : Bool) : yaa P Q X Esc (Instr.lookup t x y b) := by
 unfold Instr.lookup
 (repeat' first
  |unfold Instr.findKey
  |exact yaa.pure _
  |exact yaa.halt _
  |with_reducible first | assumption | apply zfo | apply zfz | apply zaz | apply zbz | refine zef ?_
  |((with_reducible refine zck ?_ (fun _ => ?_)); · (intro o ho; cases o <;> first | (cases ho; done) | exact .inl rfl | exact .inr fun v => ⟨_, _, rfl, (by rfl)⟩))
  |refine yaa.bind ?_ (fun _ => ?_)
  |split
  |dsimp only)
theorem zdg (hT : P.toTables = Q.toTables) {Esc : Unit → Prop} (t : TypeId) (m k x : Value) : yaa P Q X Esc (Instr.mapUpdate t m k x) := by
 unfold Instr.mapUpdate
 (repeat' first
  |unfold Instr.findKey | unfold Instr.keyThatStays
  |exact yaa.pure _
  |exact yaa.halt _
  |with_reducible first | assumption | apply zfo | apply zem | apply zba | apply zaz | apply zbz
  |((with_reducible refine zep ?_); rfl)
  |((with_reducible refine zck ?_ (fun _ => ?_)); · (intro o ho; cases o <;> first | (cases ho; done) | exact .inl rfl | exact .inr fun v => ⟨_, _, rfl, (by rfl)⟩))
  |refine yaa.bind ?_ (fun _ => ?_)
  |split
  |dsimp only)
theorem zdd (hT : P.toTables = Q.toTables) {Esc : Value → Prop} (t : TypeId) (m k : Value) : yaa P Q X Esc (Instr.mapEntry t m k) := by
 unfold Instr.mapEntry
 (repeat' first
  |unfold Instr.findKey | unfold Instr.keyThatStays
  |exact yaa.pure _
  |exact yaa.halt _
  |with_reducible first | assumption | apply zfo | apply zfz | apply zem | apply zba | apply zaz | apply zbz
  |((with_reducible refine zep ?_); rfl)
  |((with_reducible refine zck ?_ (fun _ => ?_)); · (intro o ho; cases o <;> first | (cases ho; done) | exact .inl rfl | exact .inr fun v => ⟨_, _, rfl, (by rfl)⟩))
  |refine yaa.bind ?_ (fun _ => ?_)
  |split
  |dsimp only)
theorem zbm {Esc : Unit → Prop} (t : TypeId) (m k x : Value) : yaa P Q X Esc (Instr.entryStore t m k x) := by
 unfold Instr.entryStore
 (repeat' first
  |unfold Instr.findKey | unfold Instr.keyThatStays
  |exact yaa.halt _
  |with_reducible first | assumption | apply zai
  |((with_reducible refine zep ?_); rfl)
  |((with_reducible refine zck ?_ (fun _ => ?_)); · (intro o ho; cases o <;> first | (cases ho; done) | exact .inl rfl | exact .inr fun v => ⟨_, _, rfl, (by rfl)⟩))
  |refine yaa.bind ?_ (fun _ => ?_)
  |split
  |dsimp only)
theorem zdt (hT : P.toTables = Q.toTables) {Esc : Value → Prop} (x : Value) (b : Bool) (t : TypeId) : yaa P Q X Esc (Instr.next x b t) := by
 unfold Instr.next
 (repeat' first
  |exact yaa.pure _
  |exact yaa.halt _
  |with_reducible first | assumption | apply zba
  |((with_reducible refine zep ?_); rfl)
  |((with_reducible refine zck ?_ (fun _ => ?_)); · (intro o ho; cases o <;> first | (cases ho; done) | exact .inl rfl | exact .inr fun v => ⟨_, _, rfl, (by rfl)⟩))
  |refine yaa.bind ?_ (fun _ => ?_)
  |split
  |dsimp only)
theorem zbl {Esc : Value → Prop} (x : Value) : yaa P Q X Esc (Instr.entry x) := by
 unfold Instr.entry
 (repeat' first
  |exact yaa.pure _
  |exact yaa.halt _
  |with_reducible assumption
  |((with_reducible refine zck ?_ (fun _ => ?_)); · (intro o ho; cases o <;> first | (cases ho; done) | exact .inl rfl | exact .inr fun v => ⟨_, _, rfl, (by rfl)⟩))
  |split
  |dsimp only)
theorem zeg (hT : P.toTables = Q.toTables) {Esc : Value → Prop} (t : TypeId) (x : Value) : yaa P Q X Esc (Instr.range t x) := by
 unfold Instr.range
 (repeat' first
  |exact yaa.pure _
  |exact yaa.halt _
  |with_reducible first | assumption | apply zfo
  |((with_reducible refine zdq _ ?_); rfl)
  |with_reducible refine zef ?_
  |((with_reducible refine zck ?_ (fun _ => ?_)); · (intro o ho; cases o <;> first | (cases ho; done) | exact .inl rfl | exact .inr fun v => ⟨_, _, rfl, (by rfl)⟩))
  |refine yaa.bind ?_ (fun _ => ?_)
  |split
  |dsimp only)
theorem zfm {Esc : Value → Prop} (op : UnOp) (x : Value) : yaa P Q X Esc (Op.unary op x) := by
 unfold Op.unary
 (repeat' first
  |unfold Op.intArith | unfold Op.intBits
  |exact yaa.pure _
  |exact yaa.halt _
  |with_reducible assumption
  |split
  |dsimp only)
theorem zae {Esc : Value → Prop} (hT : P.toTables = Q.toTables) (t : TypeId) (x : Value) : yaa P Q X Esc (Instr.arrayAt t x) := by
 unfold Instr.arrayAt
 (repeat' first
  |exact yaa.pure _
  |exact yaa.halt _
  |with_reducible first | assumption | apply zfo | apply zem
  |refine yaa.bind ?_ (fun _ => ?_)
  |split
  |dsimp only)
theorem zfw {Esc : Value → Prop} (g : Nat) : yaa P Q X Esc (Instr.waits g) := zeq (fun _ _ _ => rfl) fun x => yaa.pure _
theorem zeh {Esc : Unit → Prop} (g : Nat) : yaa P Q X Esc (Instr.ready g) := by
 unfold Instr.ready
 refine zeq (fun _ _ _ => rfl) fun x => ?_
 split
 ·exact yaa.pure _
 ·refine zck (fun o ho => by cases o <;> first | (cases ho; done) | exact .inl rfl | exact .inr fun v => ⟨_, _, rfl, (by rfl)⟩) fun o => ?_
  split
  ·exact yaa.setObj rfl (yaa.pure _)
  ·exact yaa.halt _
theorem zdv {Esc : Next → Prop} (hT : P.toTables = Q.toTables) (ρ : Operand → Value) (o : Oper) (x : Operand) (ho : o.op = .nilCheck x) : yaa P Q X Esc (execOp ρ o) := by
 unfold execOp
 rw [ho]
 dsimp only
 split
 ·exact zem hT _
 ·exact zem hT _
 ·exact zem hT _
 ·split
  ·exact zem hT _
  ·refine zed (by simp only [hT]) ?_
   refine yaa.bind (zdu hT _ _ _ _) fun b => ?_
   split
   ·exact yaa.halt _
   ·exact yaa.pure _
  ·exact yaa.pure _
 ·exact yaa.pure _
theorem zbv {Esc : Next → Prop} (hT : P.toTables = Q.toTables) (ρ : Operand → Value) (o : Oper) (h : ydo Q o.op = true) (hcall : ∀ c, o.op = .call c → yaa P Q X Esc (do let d ← resolve ρ c o.type; invoke d.target d.args)) : yaa P Q X Esc (execOp ρ o) := by
 cases ho : o.op
 case nilCheck x => exact zdv hT ρ o x ho
 all_goals (rw [ho] at h)
 all_goals (unfold execOp; rw [ho]; dsimp only)
 case build => exact yaa.bind (zaq hT _ _) fun _ => yaa.pure _
 case ready => exact yaa.bind (zeh _) fun _ => yaa.pure _
 case waits => exact yaa.bind (zfw _) fun _ => yaa.pure _
 case binOp => exact yaa.bind (yaa.bind (zbn hT _ _ _ _ _ _) fun _ => zan hT _ _ _ _) fun _ => yaa.pure _
 case convert src dst x =>
  refine yaa.bind (zbg hT _ _ _ ?_ ?_ ?_) fun _ => yaa.pure _
  ·intro e; simp [ydo, e] at h
  ·intro e; simp [ydo, e] at h
  ·intro e he hh; simp [ydo, he, hh] at h
 case call c => exact hcall c ho
 case panic => exact yaa.bind (zea hT _) fun _ => yaa.pure _
 all_goals first
  |(simp [ydo] at h; done)
  |exact yaa.pure _
  |(refine yaa.bind ?_ (fun _ => yaa.pure _); with_reducible (first | apply zah | apply zcu | apply zfc | apply zby | apply zcn | apply zev | apply zab | apply zap | apply zar | apply zbw | apply zbx | apply zcm | apply zda | apply zdc | apply zdb | apply zfj | apply zcz | apply zdg | apply zdd | apply zbm | apply zdt | apply zbl | apply zeg | apply zfm | apply zae | apply zee) <;> assumption)
theorem zbu {Z : Nat → Prop} (T : Twin P Q Z) (ρ : Operand → Value) (o : Oper) (h : ydo Q o.op = true) : yaa P Q X (EscZ Z) (execOp ρ o) :=
 zbv T.tables ρ o h fun c hc => zax T _ _ _ (by rw [hc] at h; exact h)
theorem ybj.bind {L : Lim} {w v : World} {es : Array Event} {α β : Type} {Esc : β → Prop} {s : Sem α} {f : α → Sem β} (h1 : ybj X L (fun _ => False) w es (s.runT P w es) (s.run Q v)) (hf : ∀ a, yaa P Q X Esc (f a)) : ybj X L Esc w es ((s.bind f).runT P w es) ((s.bind f).run Q v) := by
 intro hL
 rw [run_bind] at hL ⊢
 rw [yeq]
 generalize s.run Q v = r at h1 hL
 cases r with
 |ok a v' =>
  have hm : v'.drawn ≤ ((f a).run Q v').wd.drawn := yet Q (f a) v'
  rcases h1 (Nat.le_trans hm hL) with h1 | ⟨w', new, e, hR', hs, hn⟩
  ·exact h1.elim
  rw [e]
  exact (ybj.step (hf a L w' v' (es ++ new) hR') hs hn) hL
 |halt y v' =>
  refine ⟨(h1 hL).1, fun z hz => ?_⟩
  obtain ⟨w', new, e, hR', hs, hn⟩ := (h1 hL).2 z hz
  rw [e]
  exact ⟨w', new, rfl, hR', hs, hn⟩
theorem ysl (hT : P.toTables = Q.toTables) {L : Lim} {w v : World} {es : Array Event} {Esc : Next → Prop} (ρ : Operand → Value) (o : Oper) {src dst : TypeId} {x : Operand} (ho : o.op = .convert src dst x) (hR : Rel yca L w v) (he : w.heap = v.heap) : ybj yca L Esc w es ((execOp ρ o).runT P w es) ((execOp ρ o).run Q v) := by
 unfold execOp
 rw [ho]
 dsimp only
 exact ybj.bind (yun hT hR he _ _ _) fun _ => yaa.pure _
theorem yxg {Q : Program} {o : Op} (h : okG Q o = true) : ydo Q o = true ∨ ∃ src dst x, o = .convert src dst x := by
 cases o <;> first | exact .inr ⟨_, _, _, rfl⟩ | exact .inl h
theorem ynp {Z : Nat → Prop} (T : Twin P Q Z) {L : Lim} {w v : World} {es : Array Event} (ρ : Operand → Value) (o : Oper) (h : okG Q o.op = true) (hR : Rel yca L w v) (he : w.heap = v.heap) : ybj yca L (EscZ Z) w es ((execOp ρ o).runT P w es) ((execOp ρ o).run Q v) := by
 rcases yxg h with h | ⟨src, dst, x, ho⟩
 ·exact zbu T ρ o h L w v es hR
 ·exact ysl T.tables ρ o ho hR he
end Go.Sim

namespace Go.Sim
variable {P Q : Program} {X : Nat → Prop}
def Tame (v : World) : Prop := ∀ (b : Nat) o, v.heap[b]? = some o → ¬ Wild o
theorem Rel.tame {L : Lim} {w v : World} (h : Rel X L w v) : Tame v := fun _ _ e => h.nov e
def yaq (Q : Program) {α : Type} (φ : α → Prop) (s : Sem α) : Prop := ∀ v a v', s.run Q v = .ok a v' → φ a
theorem yaq.pure {α : Type} {φ : α → Prop} {a : α} (h : φ a) : yaq Q φ (Sem.pure a) := fun v b v' e => by
 simp only [Sem.run, Result.ok.injEq] at e
 exact e.1 ▸ h
theorem yaq.halt {α : Type} {φ : α → Prop} (x : Halt) : yaq Q φ (Sem.halt x : Sem α) := fun v b v' e => by simp [Sem.run] at e
theorem yaq.bind {α β : Type} {φ : β → Prop} {s : Sem α} {f : α → Sem β} (h : ∀ a, yaq Q φ (f a)) : yaq Q φ (s.bind f) := fun v b v' e => by
 rw [run_bind] at e
 split at e
 ·exact h _ _ _ _ e
 ·cases e
def okN : Next → Prop
 |.value _ | .skip | .enter _ _ | .recover => True
 |_ => False
def bodied (Q : Program) : Prop := ∀ (f : Nat) fn, Q.funcs[f]? = some fn → Done fn
theorem ymq {s : Sem Value} : yaq Q okN (do pure (.value (← s))) := yaq.bind fun _ => yaq.pure trivial
theorem ywm {s : Sem Unit} : yaq Q okN (do s; pure .skip) := yaq.bind fun _ => yaq.pure trivial
theorem yhs (hb : bodied Q) (f : Nat) (args : Array Value) : yaq Q okN (callFunc f args) := by
 intro v a v' e
 cases hq : Q.funcs[f]? with
 |none =>
  change (Sem.program fun p => match p.funcs[f]? with
   |none => stuck "call: no such function"
   |some fn => _).run Q v = _ at e
  simp only [Sem.run] at e
  rw [hq] at e
  cases e
 |some fn =>
  obtain ⟨h1 | hn, h2⟩ := hb f fn hq
  ·change (Sem.program fun p => match p.funcs[f]? with
    |none => stuck "call: no such function"
    |some fn => _).run Q v = _ at e
   simp only [Sem.run] at e
   rw [hq] at e
   dsimp only at e
   rw [h1, h2] at e
   cases e
   trivial
  ·obtain ⟨x, rfl⟩ := yjj hq hn h2 e
   trivial
theorem yai {α : Type} {φ : α → Prop} (e : RuntimeError) : yaq Q φ (runtimePanic e : Sem α) := by
 unfold runtimePanic
 refine yaq.bind fun _ => ?_
 dsimp only
 split <;> first | exact yaq.halt _ | exact yaq.bind fun _ => yaq.bind fun _ => yaq.halt _
theorem yja (hb : bodied Q) (r : Value) (n : String) (args : Array Value) : yaq Q okN (callMethod r n args) := by
 unfold callMethod
 split
 ·exact yaq.bind fun _ => yaq.bind fun x => yhs hb _ _
 ·exact yai _
 ·exact yaq.halt _
theorem ynn (b : Builtin) (h : okB b = true) (ts : Array TypeId) (t : TypeId) (cs : Array Bool) (x : Array Value) : yaq Q okN (builtin b ts t cs x) := by
 cases b <;> first | (cases h; done) | skip
 all_goals unfold builtin
 all_goals first | exact ymq | exact yaq.halt _ | exact yaq.pure (φ := okN) trivial | exact yaq.bind fun _ => yaq.pure trivial
theorem yth {v : World} (h : Tame v) (l : Nat) (x : Array Value) (a : Next) (v' : World) : (Instr.yield l x).run Q v ≠ .ok a v' := by
 intro e
 unfold Instr.yield at e
 change ((Instr.getLoop l).bind _).run Q v = _ at e
 rw [run_bind] at e
 have : ∃ y u, (Instr.getLoop l).run Q v = .halt y u := by
  unfold Instr.getLoop
  change ∃ y u, (Sem.getObj l fun o => _).run Q v = _
  simp only [Sem.run]
  cases hl : v.heap[l]? with
  |none => exact ⟨_, _, rfl⟩
  |some o =>
   have := h l o hl
   cases o with
   |loop r => exact absurd (.inr ⟨_, rfl⟩) this
   |_ => exact ⟨_, _, rfl⟩
 obtain ⟨y, u, hh⟩ := this
 rw [hh] at e
 cases e
theorem yhx (hb : bodied Q) {v : World} (h : Tame v) (t : Target) (ht : okT t = true) (args : Array Value) (a : Next) (v' : World) (e : (invoke t args).run Q v = .ok a v') : okN a := by
 unfold invoke at e
 split at e
 ·exact yai _ _ _ _ e
 ·exact ynn _ ht _ _ _ _ _ _ _ e
 ·exact yhs hb _ _ _ _ _ e
 ·split at e
  ·exact yja hb _ _ _ _ _ _ e
  ·exact yaq.halt _ _ _ _ e
 ·split at e
  ·exact yaq.bind (fun d => yja hb _ _ _) _ _ _ e
  ·exact yaq.halt _ _ _ _ e
 ·split at e
  ·exact yaq.bind (fun d => yhs hb _ _) _ _ _ e
  ·exact yaq.halt _ _ _ _ e
 ·exact absurd e (yth h _ _ _ _)
 ·exact yaq.halt _ _ _ _ e
 ·cases ht
theorem pb {d : Deferred} {v v' : World} {a : Next} (e : ((pure d : Sem Deferred) >>= fun d => invoke d.target d.args).run Q v = .ok a v') : (invoke d.target d.args).run Q v = .ok a v' := e
theorem execOp_ends (hb : bodied Q) {v : World} (h : Tame v) (ρ : Operand → Value) (o : Oper) (ho : okG Q o.op = true) (a : Next) (v' : World) (e : (execOp ρ o).run Q v = .ok a v') : okN a := by
 unfold execOp at e
 dsimp only at e
 split at e
 all_goals first | exact ymq _ _ _ e | exact ywm _ _ _ e | exact yaq.bind (fun _ => yaq.pure trivial) _ _ _ e | exact yaq.pure trivial _ _ _ e | (rename_i hop; rw [hop] at ho; cases ho; done) | skip
 ·split at e
  all_goals first | exact yai _ _ _ _ e | exact yaq.pure trivial _ _ _ e | skip
  split at e
  all_goals first | exact yai _ _ _ _ e | exact yaq.pure trivial _ _ _ e | skip
  exact yaq.bind (fun _ => yaq.bind fun _ => by split <;> first | exact yaq.bind (fun _ => yaq.pure trivial) | exact yaq.pure trivial) _ _ _ e
 ·next c hop =>
  rw [hop] at ho
  revert e
  unfold resolve
  dsimp only
  split
  ·next b eb =>
   simp only [okG, ydo, eb] at ho
   exact fun e => yhx hb h (.builtin b _ _ _) ho _ _ _ (pb e)
  ·exact fun e => yhx hb h _ (by rfl) _ _ _ (pb e)
  ·unfold Deferred.ofValue
   split
   ·exact fun e => yhx hb h _ (by rfl) _ _ _ (pb e)
   ·exact fun e => yhx hb h _ (by rfl) _ _ _ (pb e)
   ·exact fun e => yaq.halt _ _ _ _ e
end Go.Sim

namespace Go.Sim
variable {P Q : Program} {X : Nat → Prop} {ok : Op → Bool}
theorem zej {Esc : Value → Prop} (hT : P.toTables = Q.toTables) (fn : Func) (tmps : Array Value) : yaa P Q X Esc (results fn tmps) := by
 unfold results
 refine yaa.bind (zde (fun r => ?_) _) fun vs => yaa.pure _
 cases r with
 |tmp t => exact yaa.pure _
 |cell a t => exact yaa.bind (zaf hT _) fun _ => zcy hT _ _
def ybe (ok : Op → Bool) : Code → Bool
 |.region _ ops _ => ops.all fun o => ok o.op
 |.seq a b | .cond _ a b => ybe ok a && ybe ok b
 |.block _ b | .loop b | .scope b => ybe ok b
 |.rangeFunc .. => false
 |_ => true
def ykm (ok : Op → Bool) : Item → Bool
 |.code c | .inLoop c | .inScope c => ybe ok c
 |.inRegion ops _ => ops.all fun o => ok o.op
 |.inBlock _ => true
 |_ => false
def ybp (ok : Op → Bool) (l : List Item) : Bool := l.all (ykm ok)
structure yml (Q : Program) (ok : Op → Bool) (E : Nat → Prop) (fr : Frame) : Prop where
 items : ybp ok fr.todo = true
 defers : fr.defers = []
 kind : fr.kind = .normal
 round : fr.roundOf = none
 fn : ¬ E fr.fn
 inn : fr.fn < Q.funcs.size
def gor (fr : Frame) (cs : List Frame) : Goroutine := { frame := fr, callers := cs, status := .running, dying := none }
theorem ypo {id : Nat} : ∀ {k k' : List Item}, ybp ok k = true → exitTo id k = some k' → ybp ok k' = true
 |[], _, _, h => by simp [exitTo] at h
 |i :: k, k', ho, h => by
  simp only [ybp, List.all_cons, Bool.and_eq_true] at ho
  have hk : ybp ok k = true := ho.2
  cases i <;> simp only [exitTo] at h <;> first | exact ypo hk h | skip
  split at h
  ·cases h; exact hk
  ·exact ypo hk h
theorem yjm {l : Nat} : ∀ {c c' : Code}, ybe ok c = true → findLabel c l = some c' → ybe ok c' = true
 |.seq a b, c', ho, h => by
  simp only [ybe, Bool.and_eq_true] at ho
  simp only [findLabel] at h
  split at h
  ·next r e =>
   cases h
   simp only [ybe, Bool.and_eq_true]
   exact ⟨yjm ho.1 e, ho.2⟩
  ·exact yjm ho.2 h
 |.label l', c', ho, h => by
  simp only [findLabel] at h
  split at h
  ·cases h; rfl
  ·cases h
 |.skip, _, _, h | .region .., _, _, h | .cond .., _, _, h | .block .., _, _, h | .loop _, _, _, h | .rangeFunc .., _, _, h | .exit _, _, _, h | .scope _, _, _, h | .goto _, _, _, h | .ret, _, _, h | .refuse _, _, _, h => by simp [findLabel] at h
theorem ypp {l : Nat} : ∀ {k k' : List Item}, ybp ok k = true → gotoIn l k = some k' → ybp ok k' = true
 |[], _, _, h => by simp [gotoIn] at h
 |i :: k, k', ho, h => by
  have ho' := ho
  simp only [ybp, List.all_cons, Bool.and_eq_true] at ho
  have hk : ybp ok k = true := ho.2
  cases i <;> simp only [gotoIn] at h <;> first | exact ypp hk h | skip
  split at h
  ·next r e =>
   cases h
   simp only [ybp, List.all_cons, Bool.and_eq_true]
   exact ⟨yjm ho.1 e, ho.1, hk⟩
  ·exact ypp hk h
theorem ylw {E : Nat → Prop} {fr : Frame} (h : yml Q ok E fr) (v : Value) : yml Q ok E (fr.finish v) := by
 obtain ⟨h1, h2, h3, h4, h5, h6⟩ := h
 unfold Frame.finish
 split
 ·next ops i rest k e =>
  rw [e] at h1
  exact ⟨h1, h2, h3, h4, h5, h6⟩
 all_goals first | (next e => rw [e] at h1; simp [ybp, ykm] at h1; done) | (next e => exact ⟨h1, h2, h3, h4, h5, h6⟩)
theorem yks (fr : Frame) (v : Value) : (fr.finish v).mode = fr.mode := by
 unfold Frame.finish
 repeat' split
 all_goals rfl
theorem mem_seen (p : Program) (fn : FuncId) (es : Array Event) (e : Event) (h : e ∈ seen p fn es) : e ∈ es := by
 unfold seen at h
 dsimp only at h
 rw [← Array.foldl_toList] at h
 have key : ∀ (l : List Event) (q : Bool) (kept : Array Event), e ∈ (l.foldl (fun (x : Bool × Array Event) (e : Event) => match e.loc with
   |.mark (.extern f) => ((p.funcs[f]?).any (·.norace), x.2)
   |_ => (x.1, if x.1 && !e.sync then x.2 else x.2.push e)) (q, kept)).2 → e ∈ kept ∨ e ∈ l := by
  intro l
  induction l with
  |nil => exact fun q kept h => .inl h
  |cons x l ih =>
   intro q kept h
   rw [List.foldl_cons] at h
   split at h
   ·rcases ih _ _ h with q | q
    ·exact .inl q
    ·exact .inr (List.mem_cons_of_mem _ q)
   ·rcases ih _ _ h with q | q
    ·split at q
     ·exact .inl q
     ·rcases Array.mem_push.1 q with q | q
      ·exact .inl q
      ·exact .inr (q ▸ List.mem_cons_self ..)
    ·exact .inr (List.mem_cons_of_mem _ q)
 rcases key es.toList _ _ h with q | q
 ·simp at q
 ·exact Array.mem_toList_iff.1 q
theorem yig {α : Type} (P : Program) (s : Sem α) : ∀ (w : World) (es : Array Event), (s.runT P w es).1 = s.run P w := by
 induction s with
 |pure a => exact fun _ _ => rfl
 |halt h => exact fun _ _ => rfl
 |load m a k ih =>
  intro w es
  simp only [Sem.run, Sem.runT]
  cases w.cell? a with
  |some v => exact ih _ _ _
  |none =>
   dsimp only
   cases w.farLoad P a (m == .atomic) with
   |ok r => exact ih _ _ _
   |error e => rfl
 |store m a v k ih =>
  intro w es
  have key : (match w.cell? a with
   |some _ =>
    if w.frozen? a then (.halt (.unsupported (.unsafePointer "a write to bytes that a string shares")) w, es)
    else k.runT P (w.setCell a v) (es.push ⟨.cell a, true, m == .atomic⟩)
   |none => match w.farStore P a v (m == .atomic) with
    |.ok (w, touched) => k.runT P w (es ++ touched.toArray.map (⟨.cell ·, true, m == .atomic⟩))
    |.error h => (.halt h w, es) : Result _ × Array Event).1 = (match w.cell? a with
   |some _ => if w.frozen? a then .halt (.unsupported (.unsafePointer "a write to bytes that a string shares")) w else k.run P (w.setCell a v)
   |none => match w.farStore P a v (m == .atomic) with
    |.ok (w, _) => k.run P w
    |.error h => .halt h w : Result _) := by
   cases w.cell? a with
   |some v =>
    dsimp only
    split
    ·rfl
    ·exact ih _ _
   |none =>
    dsimp only
    cases w.farStore P a v (m == .atomic) with
    |ok r => exact ih _ _
    |error e => rfl
  cases v <;> first | rfl | exact key
 |new o k ih => exact fun _ _ => ih _ _ _
 |shape r k ih => exact fun _ _ => ih _ _ _
 |freeze a n k ih => exact fun _ _ => ih _ _
 |frozen a k ih => exact fun _ _ => ih _ _ _
 |getObj r k ih =>
  intro w es
  simp only [Sem.run, Sem.runT]
  cases w.heap[r]? with
  |none => rfl
  |some o => cases o <;> first | rfl | exact ih _ _ _
 |setObj r o k ih =>
  intro w es
  simp only [Sem.run, Sem.runT]
  cases w.heap[r]? with
  |none => rfl
  |some x => cases x <;> first | rfl | exact ih _ _
 |choose q k ih =>
  intro w es
  simp only [Sem.run, Sem.runT]
  split <;> exact ih _ _ _
 |sys c k ih => exact fun _ _ => ih _ _ _
 |program k ih => exact fun _ _ => ih _ _ _
 |mark m k ih => exact fun _ _ => ih _ _
end Go.Sim

namespace Go.Sim
variable {P Q : Program} {X : Nat → Prop} {ok : Op → Bool}
def OkCs (Q : Program) (ok : Op → Bool) (E : Nat → Prop) (cs : List Frame) : Prop := ∀ c ∈ cs, yml Q ok E c ∧ c.mode = .run
def yvz (P Q : Program) (ok : Op → Bool) (Rr X Z D E : Nat → Prop) (m : Bool) (L : Lim) (fr : Frame) (inner sP sQ : List Frame) (w : World) (g' : Goroutine) (v' : World) : Prop :=
 (∃ f args, Rr f ∧ Z f ∧ g' = gor (Frame.enter Q f args .normal) (fr :: (inner ++ sQ))) ∨
 (∃ w' es', Rel X L w' v' ∧ ycq X w w' ∧ (∀ e ∈ es', yld X w'.heap.size e) ∧
  ((∃ fr' inner', yml Q ok E fr' ∧ (fr'.mode = .run ∨ fr'.mode = .returning) ∧ OkCs Q ok E inner' ∧ g' = gor fr' (inner' ++ sQ) ∧ stepG P m (gor fr (inner ++ sP)) w = .go (gor fr' (inner' ++ sP)) w' es') ∨
   (∃ f args, Rr f ∧ D f ∧ ¬ Z f ∧ g' = gor (Frame.enter Q f args .normal) (fr :: (inner ++ sQ)) ∧ stepG P m (gor fr (inner ++ sP)) w = .go (gor (Frame.enter P f args .normal) (fr :: (inner ++ sP))) w' es'))) ∨
 (∃ fr' ch, fr'.mode = .panicking ch ∧ fr'.defers = [] ∧ g' = gor fr' (inner ++ sQ))
section
variable {Rr Z D E : Nat → Prop} {m : Bool} {L : Lim} {fr fr' : Frame} {inner sP sQ : List Frame} {w v v' : World} {g' : Goroutine} {es : Array Event}
theorem alike_move (hR : Rel X L w v) (hc : OkCs Q ok E inner) (hf : yml Q ok E fr') (hm : fr'.mode = .run ∨ fr'.mode = .returning)
  (hQ : stepG Q true (gor fr (inner ++ sQ)) v = .go (gor fr' (inner ++ sQ)) v #[]) (hP : stepG P m (gor fr (inner ++ sP)) w = .go (gor fr' (inner ++ sP)) w #[])
  (h : stepG Q true (gor fr (inner ++ sQ)) v = .go g' v' es) : yvz P Q ok Rr X Z D E m L fr inner sP sQ w g' v' := by
 rw [hQ] at h
 cases h
 exact .inr (.inl ⟨w, #[], hR, .refl X w, by simp, .inl ⟨fr', inner, hf, hm, hc, rfl, hP⟩⟩)
theorem ok_todo {fr : Frame} {k : List Item} (h : yml Q ok E fr) (hk : ybp ok k = true) : yml Q ok E { fr with todo := k } := ⟨hk, h.defers, h.kind, h.round, h.fn, h.inn⟩
theorem ylv {f : Nat} {args : Array Value} {fn : Func} (hok : ∀ (f : Nat) fn c, Rr f → ¬ D f → Q.funcs[f]? = some fn → fn.body = some c → ybe ok c = true) (hE : ∀ f, E f → D f) (hr : Rr f) (hf : ¬ D f) (hq : Q.funcs[f]? = some fn) : yml Q ok E (Frame.enter Q f args .normal) := by
 refine ⟨?_, rfl, rfl, rfl, fun h => hf (hE f h), (Array.getElem?_eq_some_iff.1 hq).1⟩
 simp only [Frame.enter, hq, Option.bind_some, ybp, List.all_cons, List.all_nil, Bool.and_true, ykm]
 cases hb : fn.body with
 |none => rfl
 |some c => exact hok f fn c hr hf hq hb
theorem yju {f : Nat} {args : Array Value} (h : P.funcs[f]? = Q.funcs[f]?) : Frame.enter P f args .normal = Frame.enter Q f args .normal := by
 unfold Frame.enter
 rw [h]
theorem yge (p : Program) (m : Bool) {cs : List Frame} (w : World) (h : fr.mode = .run) : stepG p m (gor fr cs) w = stepG.exec p m true fr cs none w := by
 unfold stepG gor
 dsimp only
 rw [h]
theorem yey (p : Program) (m : Bool) {cs : List Frame} (w : World) (h : fr.mode = .returning) : stepG p m (gor fr cs) w = unwind p m fr cs none w := by
 unfold stepG gor
 dsimp only
 rw [h]
end
end Go.Sim

namespace Go.Sim
variable {P Q : Program} {X : Nat → Prop} {ok : Op → Bool}
section
variable {p : Program} {fr : Frame} {cs : List Frame} {s : Sem Next} {w w1 : World} {es : Array Event} {x : Value}
theorem ydi (hk : fr.kind = .normal) (e : s.runT p w #[] = (.ok (.value x) w1, es)) : stepG.apply p true fr cs none s w = .go (gor (fr.finish x) cs) w1 (seen p fr.fn es) := by
 unfold stepG.apply
 simp [e, hk, GStep.after, gor]
theorem ygv (hk : fr.kind = .normal) (e : s.runT p w #[] = (.ok .skip w1, es)) : stepG.apply p true fr cs none s w = .go (gor (fr.finish undef) cs) w1 (seen p fr.fn es) := by
 unfold stepG.apply
 simp [e, hk, GStep.after, gor]
theorem yos {f : Nat} {args : Array Value} {ops : Array Oper} {l : List Nat} {k : List Item} (ht : fr.todo = .inRegion ops l :: k) (hk : fr.kind = .normal) (e : s.runT p w #[] = (.ok (.enter f args) w1, es)) : stepG.apply p true fr cs none s w = .go (gor (Frame.enter p f args .normal) (fr :: cs)) w1 (seen p fr.fn es) := by
 unfold stepG.apply
 simp [e, hk, ht, GStep.after, gor]
theorem ylh (hk : fr.kind = .normal) (hr : fr.roundOf = none) (e : s.runT p w #[] = (.ok .recover w1, es)) : stepG.apply p true fr cs none s w = .go (gor (fr.finish .nilIface) cs) w1 (seen p fr.fn es) := by
 have : tryRecover fr cs = none := by unfold tryRecover; rw [hk]
 unfold stepG.apply
 simp [e, hk, hr, this, GStep.after, gor]
theorem you (hk : fr.kind = .normal) (e : s.runT p w #[] = (.halt (.panic x) w1, es)) : stepG.apply p true fr cs none s w = .go (gor (fr.raise [{ v := x, recovered := false }]) cs) w1 (seen p fr.fn es) := by
 unfold stepG.apply
 simp [e, hk, GStep.after, gor]
theorem ymm {y : Halt} (hy : ykf y = true) (e : s.runT p w #[] = (.halt y w1, es)) : ∃ o u l, stepG.apply p true fr cs none s w = .ended o u l := by
 unfold stepG.apply
 cases y with
 |unsupported u =>
  cases u <;> first | (cases hy; done) | exact ⟨_, _, _, by simp only [e, if_true]; rfl⟩
 |stuck m => exact ⟨_, _, _, by simp only [e, if_true]; rfl⟩
 |_ => cases hy
theorem ypb {p : Program} {fr : Frame} {cs : List Frame} {d : Option Dying} {g : Nat} {w w' : World} {g' : Goroutine} {es : Array Event} (h : early p fr cs d g w = .go g' w' es) : w.drawn ≤ w'.drawn := by
 unfold early at h
 dsimp only at h
 repeat' split at h
 all_goals first | (cases h; done) | (cases h; exact Nat.le_refl _) | skip
 all_goals
  have hd := yet p (choose (.early g)) w
  have hx := ‹Sem.run p (choose (Question.early g)) w = Result.ok _ _›
  rw [hx] at hd
  cases h
  exact hd
theorem yoa {l es : Array Event} {x : GStep} {g : Goroutine} {w : World} (h : GStep.after l x = .go g w es) : ∃ es', x = .go g w es' := by
 cases x <;> simp [GStep.after] at h
 exact ⟨_, by rw [h.1, h.2.1]⟩
theorem run_wd {α : Type} {p : Program} {s : Sem α} {w w' : World} {a : α} (e : s.run p w = .ok a w') : w.drawn ≤ w'.drawn := by
 have := yet p s w
 rw [e] at this
 exact this
theorem ypc {p : Program} {fr : Frame} {cs : List Frame} {d : Option Dying} {mm : String} {w w' : World} {g' : Goroutine} {es : Array Event} (h : endFatal p fr cs d mm w = .go g' w' es) : w.drawn ≤ w'.drawn := by
 unfold endFatal at h
 dsimp only at h
 split at h
 ·next e =>
  unfold dieOf at h
  cases h
  exact run_wd e
 ·cases h
 ·cases h
theorem yot {p : Program} {fr : Frame} {cs : List Frame} {s : Sem Next} {w w1 w' : World} {es es' : Array Event} {y : Halt} {g' : Goroutine} (e : s.runT p w #[] = (.halt y w1, es)) (h : stepG.apply p true fr cs none s w = .go g' w' es') : w1.drawn ≤ w'.drawn := by
 unfold stepG.apply at h
 simp only [e, if_true] at h
 obtain ⟨l, h⟩ := yoa h
 cases y with
 |unsupported u =>
  cases u <;> first | (cases h; done) | exact ypb h
 |fatal mm => exact ypc h
 |throw mm => unfold endThrow dieOf at h; cases h; exact Nat.le_refl _
 |exit c => cases h
 |stuck c => cases h
 |_ => cases h; exact Nat.le_refl _
end
section
variable {Rr Z D E : Nat → Prop} {m : Bool} {L : Lim} {fr : Frame} {inner sP sQ : List Frame} {w v v' : World} {g' : Goroutine} {es : Array Event}
theorem yha {n fn : Nat} {es : Array Event} (h : ∀ e ∈ es, yld X n e) : ∀ e ∈ seen P fn es, yld X n e := fun e he => h e (mem_seen P fn es e he)
theorem alike_apply (hEs : ∀ f, E f → D f) (hD : ∀ f, Rr f → ¬ D f → P.funcs[f]? = Q.funcs[f]?)
  (hok : ∀ (f : Nat) fn c, Rr f → ¬ D f → Q.funcs[f]? = some fn → fn.body = some c → ybe ok c = true)
  {s : Sem Next} {ops : Array Oper} {l : List Nat} {k : List Item} (ht : fr.todo = .inRegion ops l :: k) (hf : yml Q ok E fr) (hm : fr.mode = .run) (hc : OkCs Q ok E inner)
  (hs : ybj X L (EscZ Z) w #[] (s.runT P w #[]) (s.run Q v)) (hn : ∀ a v', s.run Q v = .ok a v' → okN a) (hE : ∀ f args v', s.run Q v = .ok (.enter f args) v' → Rr f ∧ ∃ fn, Q.funcs[f]? = some fn) (hR : Rel X L w v)
  (hQ : stepG Q true (gor fr (inner ++ sQ)) v = stepG.apply Q true fr (inner ++ sQ) none s v) (hP : stepG P m (gor fr (inner ++ sP)) w = stepG.apply P true fr (inner ++ sP) none s w)
  (h : stepG Q true (gor fr (inner ++ sQ)) v = .go g' v' es) (hL : v'.drawn ≤ L.lim) : yvz P Q ok Rr X Z D E m L fr inner sP sQ w g' v' := by
 rw [hQ] at h
 have hq := yig Q s v #[]
 have hp := hs
 generalize eQ : s.runT Q v #[] = rQ at hq
 obtain ⟨r, esQ⟩ := rQ
 dsimp only at hq
 rw [← hq] at hp hn hE
 have fin : ∀ x w1 es', Rel X L w1 v' → ycq X w w1 → (∀ e ∈ es', yld X w1.heap.size e) → g' = gor (fr.finish x) (inner ++ sQ) → stepG P m (gor fr (inner ++ sP)) w = .go (gor (fr.finish x) (inner ++ sP)) w1 (seen P fr.fn es') → yvz P Q ok Rr X Z D E m L fr inner sP sQ w g' v' :=
  fun x w1 es' h1 h2 h3 h4 h5 => .inr (.inl ⟨w1, _, h1, h2, yha h3, .inl ⟨fr.finish x, inner, ylw hf x, .inl ((yks fr x).trans hm), hc, h4, h5⟩⟩)
 cases r with
 |ok a v1 =>
  have ha := hn a v1 rfl
  cases a with
  |value x =>
   rw [ydi hf.kind eQ] at h
   cases h
   rcases hp hL with q | ⟨w1, new, e, hR1, hz, hfn⟩
   ·cases q
   ·rw [Array.empty_append] at e
    exact fin x w1 new hR1 hz hfn rfl (hP.trans (ydi hf.kind e))
  |skip =>
   rw [ygv hf.kind eQ] at h
   cases h
   rcases hp hL with q | ⟨w1, new, e, hR1, hz, hfn⟩
   ·cases q
   ·rw [Array.empty_append] at e
    exact fin undef w1 new hR1 hz hfn rfl (hP.trans (ygv hf.kind e))
  |recover =>
   rw [ylh hf.kind hf.round eQ] at h
   cases h
   rcases hp hL with q | ⟨w1, new, e, hR1, hz, hfn⟩
   ·cases q
   ·rw [Array.empty_append] at e
    exact fin .nilIface w1 new hR1 hz hfn rfl (hP.trans (ylh hf.kind hf.round e))
  |enter f args =>
   rw [yos ht hf.kind eQ] at h
   cases h
   obtain ⟨hrr, fn, hfq⟩ := hE f args v' rfl
   by_cases hz : Z f
   ·exact .inl ⟨f, args, hrr, hz, rfl⟩
   rcases hp hL with q | ⟨w1, new, e, hR1, hz', hfn⟩
   ·exact absurd q hz
   ·rw [Array.empty_append] at e
    have hP' := hP.trans (yos ht hf.kind e)
    refine .inr (.inl ⟨w1, seen P fr.fn new, hR1, hz', yha hfn, ?_⟩)
    by_cases hd : D f
    ·exact .inr ⟨f, args, hrr, hd, hz, rfl, hP'⟩
    ·refine .inl ⟨Frame.enter Q f args .normal, fr :: inner, ylv hok hEs hrr hd hfq, .inl rfl, ?_, rfl, ?_⟩
     ·intro c hcm
      rcases List.mem_cons.1 hcm with rfl | hcm
      ·exact ⟨hf, hm⟩
      ·exact hc c hcm
     ·rw [yju (hD f hrr hd)] at hP'
      exact hP'
  |_ => exact ha.elim
 |halt y v1 =>
  cases y with
  |panic x =>
   rw [you hf.kind eQ] at h
   cases h
   refine .inr (.inr ⟨fr.raise [{ v := x, recovered := false }], [{ v := x, recovered := false }], ?_, ?_, rfl⟩)
   ·show (fr.raise _).mode = _
    unfold Frame.raise
    rw [hm]
   ·show (fr.raise _).defers = _
    unfold Frame.raise
    rw [hm]
    exact hf.defers
  |_ =>
   have hk := (hp (Nat.le_trans (yot eQ h) hL)).1
   obtain ⟨o, u, l, e⟩ := ymm (fr := fr) (cs := inner ++ sQ) (by exact hk) eQ
   rw [e] at h
   cases h
def ynj (Q : Program) : Next → Prop
 |.enter f _ => ∃ fn, Q.funcs[f]? = some fn
 |_ => True
theorem yno {s : Sem Value} : yaq Q (ynj Q) (do pure (.value (← s))) := yaq.bind fun _ => yaq.pure trivial
theorem enters_skip {s : Sem Unit} : yaq Q (ynj Q) (do s; pure .skip) := yaq.bind fun _ => yaq.pure trivial
theorem yfv (hb : bodied Q) (f : Nat) (args : Array Value) : yaq Q (ynj Q) (callFunc f args) := by
 intro v a v' e
 cases hq : Q.funcs[f]? with
 |none =>
  change (Sem.program fun p => match p.funcs[f]? with
   |none => stuck "call: no such function"
   |some fn => _).run Q v = _ at e
  simp only [Sem.run] at e
  rw [hq] at e
  cases e
 |some fn =>
  obtain ⟨h1 | hn, h2⟩ := hb f fn hq
  ·change (Sem.program fun p => match p.funcs[f]? with
    |none => stuck "call: no such function"
    |some fn => _).run Q v = _ at e
   simp only [Sem.run] at e
   rw [hq] at e
   dsimp only at e
   rw [h1, h2] at e
   cases e
   exact ⟨fn, hq⟩
  ·obtain ⟨x, rfl⟩ := yjj hq hn h2 e
   trivial
theorem ygy (hb : bodied Q) (r : Value) (n : String) (args : Array Value) : yaq Q (ynj Q) (callMethod r n args) := by
 unfold callMethod
 split
 ·exact yaq.bind fun _ => yaq.bind fun x => yfv hb _ _
 ·exact yai _
 ·exact yaq.halt _
theorem yrf (b : Builtin) (h : okB b = true) (ts : Array TypeId) (t : TypeId) (cs : Array Bool) (x : Array Value) : yaq Q (ynj Q) (builtin b ts t cs x) := by
 cases b <;> first | (cases h; done) | skip
 all_goals unfold builtin
 all_goals first | exact yno | exact yaq.halt _ | exact yaq.pure (φ := ynj Q) trivial | exact yaq.bind fun _ => yaq.pure trivial
theorem yfd (hb : bodied Q) {v : World} (h : Tame v) (t : Target) (ht : okT t = true) (args : Array Value) (a : Next) (v' : World) (e : (invoke t args).run Q v = .ok a v') : ynj Q a := by
 unfold invoke at e
 split at e
 ·exact yai _ _ _ _ e
 ·exact yrf _ ht _ _ _ _ _ _ _ e
 ·exact yfv hb _ _ _ _ _ e
 ·split at e
  ·exact ygy hb _ _ _ _ _ _ e
  ·exact yaq.halt _ _ _ _ e
 ·split at e
  ·exact yaq.bind (fun d => ygy hb _ _ _) _ _ _ e
  ·exact yaq.halt _ _ _ _ e
 ·split at e
  ·exact yaq.bind (fun d => yfv hb _ _) _ _ _ e
  ·exact yaq.halt _ _ _ _ e
 ·exact absurd e (yth h _ _ _ _)
 ·exact yaq.halt _ _ _ _ e
 ·cases ht
theorem yll (hb : bodied Q) {v : World} (h : Tame v) (ρ : Operand → Value) (o : Oper) (ho : okG Q o.op = true) (a : Next) (v' : World) (e : (execOp ρ o).run Q v = .ok a v') : ynj Q a := by
 unfold execOp at e
 dsimp only at e
 split at e
 all_goals first | exact yno _ _ _ e | exact enters_skip _ _ _ e | exact yaq.bind (fun _ => yaq.pure trivial) _ _ _ e | exact yaq.pure trivial _ _ _ e | (rename_i hop; rw [hop] at ho; cases ho; done) | skip
 ·split at e
  all_goals first | exact yai _ _ _ _ e | exact yaq.pure trivial _ _ _ e | skip
  split at e
  all_goals first | exact yai _ _ _ _ e | exact yaq.pure trivial _ _ _ e | skip
  exact yaq.bind (fun _ => yaq.bind fun _ => by split <;> first | exact yaq.bind (fun _ => yaq.pure trivial) | exact yaq.pure trivial) _ _ _ e
 ·next c hop =>
  rw [hop] at ho
  revert e
  unfold resolve
  dsimp only
  split
  ·next b eb =>
   simp only [okG, ydo, eb] at ho
   exact fun e => yfd hb h (.builtin b _ _ _) ho _ _ _ (pb e)
  ·exact fun e => yfd hb h _ (by rfl) _ _ _ (pb e)
  ·unfold Deferred.ofValue
   split
   ·exact fun e => yfd hb h _ (by rfl) _ _ _ (pb e)
   ·exact fun e => yfd hb h _ (by rfl) _ _ _ (pb e)
   ·exact fun e => yaq.halt _ _ _ _ e
end
end Go.Sim

namespace Go.Sim
variable {P Q : Program} {X : Nat → Prop} {ok : Op → Bool}
structure PairB (P Q : Program) (ok : Op → Bool) (Rr Z D E : Nat → Prop) : Prop where
 tables : P.toTables = Q.toTables
 ends : ∀ (fr : Frame) (o : Oper) v a v', ok o.op = true → Tame v → (execOp fr.eval o).run Q v = .ok a v' → okN a
 into : ∀ (fr : Frame) (o : Oper) f args v v', ok o.op = true → Tame v → (execOp fr.eval o).run Q v = .ok (.enter f args) v' → Rr f ∧ ∃ fn, Q.funcs[f]? = some fn
 same : ∀ f, Rr f → ¬ D f → P.funcs[f]? = Q.funcs[f]?
 code : ∀ (f : Nat) fn c, Rr f → ¬ D f → Q.funcs[f]? = some fn → fn.body = some c → ybe ok c = true
 sub : ∀ f, Z f → D f
 subE : ∀ f, E f → D f
 res : ∀ (f : Nat) fQ, ¬ E f → Q.funcs[f]? = some fQ → ∃ fP, P.funcs[f]? = some fP ∧ fP.results = fQ.results
structure yqz (P Q : Program) (ok : Op → Bool) (Rr Z D E : Nat → Prop) : Prop extends PairB P Q ok Rr Z D E where
 ops : ∀ (X : Nat → Prop) (fr : Frame) (o : Oper), ok o.op = true → yaa P Q X (EscZ Z) (execOp fr.eval o)
theorem yws {Rr Z D E : Nat → Prop} (T : PairB P Q ok Rr Z D E) (d : Departure) : P.follows d = Q.follows d := by
 have := T.tables
 unfold Tables.follows
 rw [this]
section
variable {Rr Z D E : Nat → Prop} {m : Bool} {L : Lim} {fr : Frame} {inner sP sQ : List Frame} {w v v' : World} {g' : Goroutine} {es : Array Event}
theorem ywf (T : PairB P Q ok Rr Z D E) (hf : yml Q ok E fr) (hm : fr.mode = .returning) (hc : OkCs Q ok E inner) (hne : inner ≠ []) (hR : Rel X L w v)
  (h : stepG Q true (gor fr (inner ++ sQ)) v = .go g' v' es) (hL : v'.drawn ≤ L.lim) : yvz P Q ok Rr X Z D E m L fr inner sP sQ w g' v' := by
 obtain ⟨c, rest, rfl⟩ := List.exists_cons_of_ne_nil hne
 have hP : stepG P m (gor fr (c :: rest ++ sP)) w = _ := yey P m w hm
 rw [yey Q true v hm] at h
 unfold unwind at h hP
 simp only [hf.defers, hm] at h hP
 cases hq : Q.funcs[fr.fn]? with
 |none => exact absurd (Array.getElem?_eq_none_iff.1 hq) (Nat.not_le.2 hf.inn)
 |some fn =>
  obtain ⟨fP, hfP, hres⟩ := T.res fr.fn fn hf.fn hq
  rw [hq] at h
  rw [hfP] at hP
  have er : results fP fr.tmps = results fn fr.tmps := by unfold results; rw [hres]
  dsimp only at h hP
  rw [er] at hP
  have hs := zej (Esc := fun _ => False) (X := X) T.tables fn fr.tmps L w v #[] hR
  have e1 := yig Q (results fn fr.tmps) v #[]
  generalize eQ : (results fn fr.tmps).runT Q v #[] = rQ at h e1
  obtain ⟨r, esQ⟩ := rQ
  dsimp only at e1 h
  rw [← e1] at hs
  obtain ⟨l, h⟩ := yoa h
  cases r with
  |ok x v1 =>
   dsimp only at h
   unfold doReturn at h
   simp only [List.cons_append, hf.kind] at h
   cases h
   rcases hs hL with q | ⟨w1, new, e, hR1, hz, hfn⟩
   ·exact q.elim
   ·rw [Array.empty_append] at e
    rw [e] at hP
    dsimp only at hP
    unfold doReturn at hP
    simp only [List.cons_append, hf.kind, GStep.after, Array.append_empty] at hP
    have hcc := hc c (List.mem_cons_self ..)
    exact .inr (.inl ⟨w1, seen P fr.fn new, hR1, hz, yha hfn, .inl ⟨c.finish x, rest, ylw hcc.1 x, .inl ((yks c x).trans hcc.2), fun a ha => hc a (List.mem_cons_of_mem _ ha), rfl, hP⟩⟩)
  |halt y v1 => cases y <;> cases h
theorem zfa (T : PairB P Q ok Rr Z D E) (hops : ∀ o : Oper, ok o.op = true → ybj X L (EscZ Z) w #[] ((execOp fr.eval o).runT P w #[]) ((execOp fr.eval o).run Q v)) (hf : yml Q ok E fr) (hm : fr.mode = .run ∨ fr.mode = .returning) (hc : OkCs Q ok E inner) (hne : fr.mode = .returning → inner ≠ []) (hR : Rel X L w v)
  (h : stepG Q true (gor fr (inner ++ sQ)) v = .go g' v' es) (hL : v'.drawn ≤ L.lim) : yvz P Q ok Rr X Z D E m L fr inner sP sQ w g' v' := by
 rcases hm with hm | hm
 case inr => exact ywf T hf hm hc (hne hm) hR h hL
 have eQ := yge (fr := fr) (cs := inner ++ sQ) Q true v hm
 have eP := yge (fr := fr) (cs := inner ++ sP) P m w hm
 have hit := hf.items
 have mv : ∀ fr', yml Q ok E fr' → (fr'.mode = .run ∨ fr'.mode = .returning) → stepG.exec Q true true fr (inner ++ sQ) none v = .go (gor fr' (inner ++ sQ)) v #[] → stepG.exec P m true fr (inner ++ sP) none w = .go (gor fr' (inner ++ sP)) w #[] → yvz P Q ok Rr X Z D E m L fr inner sP sQ w g' v' :=
  fun fr' h1 h2 h3 h4 => alike_move hR hc h1 h2 (eQ.trans h3) (eP.trans h4) h
 have to : ∀ k, ybp ok k = true → stepG.exec Q true true fr (inner ++ sQ) none v = .go (gor { fr with todo := k } (inner ++ sQ)) v #[] → stepG.exec P m true fr (inner ++ sP) none w = .go (gor { fr with todo := k } (inner ++ sP)) w #[] → yvz P Q ok Rr X Z D E m L fr inner sP sQ w g' v' :=
  fun k h1 h3 h4 => mv _ (ok_todo hf h1) (.inl hm) h3 h4
 have back : yml Q ok E { fr with mode := .returning } := ⟨hf.items, hf.defers, hf.kind, hf.round, hf.fn, hf.inn⟩
 cases ht : fr.todo with
 |nil =>
  refine mv _ back (.inr rfl) ?_ ?_ <;> (unfold stepG.exec; simp only [ht, hf.round]; rfl)
 |cons it k =>
  rw [ht] at hit
  have hk : ybp ok k = true := by simp only [ybp, List.all_cons, Bool.and_eq_true] at hit; exact hit.2
  have hi : ykm ok it = true := by simp only [ybp, List.all_cons, Bool.and_eq_true] at hit; exact hit.1
  have cons : ∀ i l, ykm ok i = true → ybp ok l = true → ybp ok (i :: l) = true := fun i l h1 h2 => by simp only [ybp, List.all_cons, Bool.and_eq_true]; exact ⟨h1, h2⟩
  cases it with
  |inBlock id => exact to k hk (by unfold stepG.exec; simp only [ht]; rfl) (by unfold stepG.exec; simp only [ht]; rfl)
  |inScope b => exact to k hk (by unfold stepG.exec; simp only [ht]; rfl) (by unfold stepG.exec; simp only [ht]; rfl)
  |inLoop b => exact to (.code b :: .inLoop b :: k) (cons _ _ hi (cons _ _ hi hk)) (by unfold stepG.exec; simp only [ht]; rfl) (by unfold stepG.exec; simp only [ht]; rfl)
  |inRangeFunc l => cases hi
  |endRangeFunc l => cases hi
  |beginRound => cases hi
  |call d a b c => cases hi
  |extern a b => cases hi
  |inRegion ops l =>
   cases l with
   |nil => exact to k hk (by unfold stepG.exec; simp only [ht]; rfl) (by unfold stepG.exec; simp only [ht]; rfl)
   |cons i rest =>
    cases hw : ((ops[i]?).map (Region.wanted · (yielded ops fr.tmps))).getD false with
    |false => exact mv _ (ylw hf undef) (.inl ((yks fr undef).trans hm)) (by unfold stepG.exec; simp only [ht, hw]; rfl) (by unfold stepG.exec; simp only [ht, hw]; rfl)
    |true =>
     cases ho : ops[i]? with
     |none => rw [ho] at hw; cases hw
     |some o =>
      have hop : fr.oper? = some o := by unfold Frame.oper?; rw [ht]; exact ho
      have ho1 : ok o.op = true := by
       have : ops.all (fun o => ok o.op) = true := hi
       rw [Array.all_eq_true] at this
       obtain ⟨hlt, e⟩ := Array.getElem?_eq_some_iff.1 ho
       rw [← e]
       exact this i hlt
      have ex : ∀ (p : Program) (m : Bool) (cs : List Frame) (w : World), stepG.exec p m true fr cs none w = stepG.apply p true fr cs none (execOp fr.eval o) w := by
       intro p m cs w
       unfold stepG.exec
       simp only [ht, hw, if_true]
       unfold stepG.oper
       simp only [hop, hf.round]
      exact alike_apply T.subE T.same T.code ht hf hm hc (hops o ho1) (fun a v' e => T.ends fr o v a v' ho1 hR.tame e) (fun f args v' e => T.into fr o f args v v' ho1 hR.tame e) hR (eQ.trans (ex Q true _ v)) (eP.trans (ex P m _ w)) h hL
  |code c =>
   cases c with
   |ret => refine mv _ back (.inr rfl) ?_ ?_ <;> (unfold stepG.exec; simp only [ht, hf.round]; rfl)
   |skip => exact to k hk (by unfold stepG.exec; simp only [ht]; rfl) (by unfold stepG.exec; simp only [ht]; rfl)
   |label l => exact to k hk (by unfold stepG.exec; simp only [ht]; rfl) (by unfold stepG.exec; simp only [ht]; rfl)
   |seq a b =>
    have hi' : ybe ok a = true ∧ ybe ok b = true := by simpa only [ykm, ybe, Bool.and_eq_true] using hi
    exact to (.code a :: .code b :: k) (cons _ _ hi'.1 (cons _ _ hi'.2 hk)) (by unfold stepG.exec; simp only [ht]; rfl) (by unfold stepG.exec; simp only [ht]; rfl)
   |cond c a b =>
    have hi' : ybe ok a = true ∧ ybe ok b = true := by simpa only [ykm, ybe, Bool.and_eq_true] using hi
    rw [eQ] at h
    cases he : fr.eval c with
    |bool t =>
     rw [← eQ] at h
     exact to (.code (if t then a else b) :: k) (cons _ _ (by cases t; exact hi'.2; exact hi'.1) hk) (by unfold stepG.exec; simp only [ht, he]; rfl) (by unfold stepG.exec; simp only [ht, he]; rfl)
    |_ => unfold stepG.exec at h; simp only [ht, he] at h; cases h
   |block id b => exact to (.code b :: .inBlock id :: k) (cons _ _ hi (cons _ _ rfl hk)) (by unfold stepG.exec; simp only [ht]; rfl) (by unfold stepG.exec; simp only [ht]; rfl)
   |loop b => exact to (.code b :: .inLoop b :: k) (cons _ _ hi (cons _ _ hi hk)) (by unfold stepG.exec; simp only [ht]; rfl) (by unfold stepG.exec; simp only [ht]; rfl)
   |scope b => exact to (.code b :: .inScope b :: k) (cons _ _ hi (cons _ _ hi hk)) (by unfold stepG.exec; simp only [ht]; rfl) (by unfold stepG.exec; simp only [ht]; rfl)
   |rangeFunc f a b c => cases hi
   |exit id =>
    cases hx : exitTo id k with
    |some k' => exact to k' (ypo hk hx) (by unfold stepG.exec; simp only [ht, hx, Option.elim]; rfl) (by unfold stepG.exec; simp only [ht, hx, Option.elim]; rfl)
    |none =>
     rw [eQ] at h
     unfold stepG.exec at h
     simp only [ht, hx, Option.elim, hf.round] at h
     cases h
   |goto l =>
    cases hx : gotoIn l k with
    |some k' => exact to k' (ypp hk hx) (by unfold stepG.exec; simp only [ht, hx, Option.elim]; rfl) (by unfold stepG.exec; simp only [ht, hx, Option.elim]; rfl)
    |none =>
     rw [eQ] at h
     unfold stepG.exec at h
     simp only [ht, hx, Option.elim, hf.round] at h
     cases h
   |refuse why =>
    rw [eQ] at h
    unfold stepG.exec at h
    simp only [ht] at h
    cases h
   |region id ops draw =>
    cases draw with
    |false => exact to (.inRegion ops (List.range ops.size) :: k) (cons _ _ hi hk) (by unfold stepG.exec; simp only [ht]; rfl) (by unfold stepG.exec; simp only [ht]; rfl)
    |true =>
     have ex : ∀ (p : Program) (m : Bool) (cs : List Frame) (w : World), stepG.exec p m true fr cs none w = .go (gor { fr with todo := .inRegion ops (Region.schedule (p.follows .mixedOrders) ops (w.tape w.drawn (.order fr.fn id))) :: k } cs) { w with drawn := w.drawn + 1 } #[] := by
      intro p m cs w
      unfold stepG.exec
      simp only [ht, Bool.not_true, Bool.false_eq_true, if_false, choose, Sem.run, Question.forced, Question.cut]
      rfl
     rw [eQ, ex] at h
     cases h
     have hd : v.drawn < L.lim := hL
     have e : v.tape v.drawn = w.tape w.drawn := by simpa using hR.fut 0 (by omega)
     refine .inr (.inl ⟨{ w with drawn := w.drawn + 1 }, #[], hR.drew, .of_heap rfl, by simp, .inl ⟨_, inner, ok_todo hf (k := .inRegion ops (Region.schedule (Q.follows .mixedOrders) ops (v.tape v.drawn (.order fr.fn id))) :: k) (cons _ _ hi hk), .inl hm, hc, rfl, ?_⟩⟩)
     rw [eP, ex, yws T, e]
theorem zez (T : yqz P Q ok Rr Z D E) (hf : yml Q ok E fr) (hm : fr.mode = .run ∨ fr.mode = .returning) (hc : OkCs Q ok E inner) (hne : fr.mode = .returning → inner ≠ []) (hR : Rel X L w v)
  (h : stepG Q true (gor fr (inner ++ sQ)) v = .go g' v' es) (hL : v'.drawn ≤ L.lim) : yvz P Q ok Rr X Z D E m L fr inner sP sQ w g' v' :=
 zfa T.toPairB (fun o ho => T.ops X fr o ho L w v #[] hR) hf hm hc hne hR h hL
end
end Go.Sim

namespace Go.Sim
variable {Q : Program}
def ycv (R : Nat → Bool) : Op → Bool
 |.call c => match c.callee with
  |.value (.func f) => R f
  |.builtin _ => true
  |_ => false
 |_ => true
def InR (R : Nat → Bool) : Next → Prop
 |.enter f _ => R f = true
 |_ => True
theorem ywx {R : Nat → Bool} {s : Sem Value} : yaq Q (InR R) (do pure (.value (← s))) := yaq.bind fun _ => yaq.pure trivial
theorem inr_skip {R : Nat → Bool} {s : Sem Unit} : yaq Q (InR R) (do s; pure .skip) := yaq.bind fun _ => yaq.pure trivial
theorem inr_builtin {R : Nat → Bool} (b : Builtin) (h : okB b = true) (ts : Array TypeId) (t : TypeId) (cs : Array Bool) (x : Array Value) : yaq Q (InR R) (builtin b ts t cs x) := by
 cases b <;> first | (cases h; done) | skip
 all_goals unfold builtin
 all_goals first | exact ywx | exact yaq.halt _ | exact yaq.pure (φ := InR R) trivial | exact yaq.bind fun _ => yaq.pure trivial
def Owns (Q : Program) (f : Nat) : Prop := ∃ fn, Q.funcs[f]? = some fn ∧ fn.body.isNone = false ∧ (fn.name == "runtime.NumGoroutine") = false
theorem yer {f : Nat} (h : Owns Q f) (args : Array Value) (w : World) : (callFunc f args).run Q w = .ok (.enter f args) w := by
 obtain ⟨fn, hq, h1, h2⟩ := h
 show (Sem.program fun p => match p.funcs[f]? with
  |none => stuck "call: no such function"
  |some fn => _).run Q w = _
 simp only [Sem.run, hq, h1, h2]
 rfl
theorem ymb {f : Nat} (h : Owns Q f) (args : Array Value) (w : World) (es : Array Event) : (callFunc f args).runT Q w es = (.ok (.enter f args) w, es) := by
 obtain ⟨fn, hq, h1, h2⟩ := h
 show (Sem.program fun p => match p.funcs[f]? with
  |none => stuck "call: no such function"
  |some fn => _).runT Q w es = _
 simp only [Sem.runT, hq, h1, h2]
 rfl
section
variable {P : Program} {R : Nat → Bool}
def ywc (Q : Program) (f : Nat) : Prop := ∃ fn, Q.funcs[f]? = some fn ∧ Done fn
theorem zey {X : Nat → Prop} {Esc : Next → Prop} (hT : P.toTables = Q.toTables) (hsame : ∀ f, R f = true → P.funcs[f]? = Q.funcs[f]?) (hQ : ∀ f, R f = true → ywc Q f) (fr : Frame) (o : Oper) (hk : ydo Q o.op = true) (ho : ycv R o.op = true) : yaa P Q X Esc (execOp fr.eval o) := by
 refine zbv hT fr.eval o hk fun c hop => ?_
 rw [hop] at ho hk
 unfold resolve
 dsimp only
 cases hc : c.callee with
 |builtin b =>
  simp only [ydo, hc] at hk
  exact zef (zas hT b hk _ _ _ _)
 |invoke r n => simp [ycv, hc] at ho
 |value x =>
  cases x with
  |func f =>
   simp only [ycv, hc] at ho
   refine zef ?_
   show yaa P Q X Esc (callFunc f _)
   obtain ⟨fn, hq, h1 | hn, h2⟩ := hQ f ho
   ·intro L w v es h _
    rw [yer ⟨fn, hq, h1, h2⟩, ymb ⟨fn, (hsame f ho).trans hq, h1, h2⟩]
    exact .inr ⟨w, #[], by simp, h, .refl X w, by simp⟩
   ·exact zdp hT ((hsame f ho).trans hq) hq hn h2 _
  |_ => simp [ycv, hc] at ho
theorem yqj (hQ : ∀ f, R f = true → ywc Q f) (fr : Frame) (o : Oper) {v : World} (ho : ycv R o.op = true) (hk : okG Q o.op = true) (a : Next) (v' : World) (e : (execOp fr.eval o).run Q v = .ok a v') : okN a ∧ InR R a := by
 unfold execOp at e
 dsimp only at e
 split at e
 all_goals first | exact ⟨ymq _ _ _ e, ywx _ _ _ e⟩ | exact ⟨ywm _ _ _ e, inr_skip _ _ _ e⟩ | exact ⟨yaq.bind (fun _ => yaq.pure trivial) _ _ _ e, yaq.bind (fun _ => yaq.pure trivial) _ _ _ e⟩ | exact ⟨yaq.pure trivial _ _ _ e, yaq.pure trivial _ _ _ e⟩ | (rename_i hop; rw [hop] at hk; cases hk; done) | skip
 ·split at e
  all_goals first | exact ⟨yai _ _ _ _ e, yai _ _ _ _ e⟩ | exact ⟨yaq.pure trivial _ _ _ e, yaq.pure trivial _ _ _ e⟩ | skip
  split at e
  all_goals first | exact ⟨yai _ _ _ _ e, yai _ _ _ _ e⟩ | exact ⟨yaq.pure trivial _ _ _ e, yaq.pure trivial _ _ _ e⟩ | skip
  exact ⟨yaq.bind (fun _ => yaq.bind fun _ => by split <;> first | exact yaq.bind (fun _ => yaq.pure trivial) | exact yaq.pure trivial) _ _ _ e, yaq.bind (fun _ => yaq.bind fun _ => by split <;> first | exact yaq.bind (fun _ => yaq.pure trivial) | exact yaq.pure trivial) _ _ _ e⟩
 ·next c hop =>
  rw [hop] at ho hk
  unfold resolve at e
  dsimp only at e
  cases hc : c.callee with
  |builtin b =>
   rw [hc] at e
   simp only [okG, ydo, hc] at hk
   exact ⟨ynn b hk _ _ _ _ _ _ _ (pb e), inr_builtin b hk _ _ _ _ _ _ _ (pb e)⟩
  |invoke r n => simp [ycv, hc] at ho
  |value x =>
   rw [hc] at e
   cases x with
   |func f =>
    simp only [ycv, hc] at ho
    have e2 : (callFunc f _).run Q v = .ok a v' := pb e
    obtain ⟨fn, hq, h1 | hn, h2⟩ := hQ f ho
    ·rw [yer ⟨fn, hq, h1, h2⟩] at e2
     cases e2
     exact ⟨trivial, ho⟩
    ·obtain ⟨x, rfl⟩ := yjj hq hn h2 e2
     exact ⟨trivial, trivial⟩
   |_ => simp [ycv, hc] at ho
theorem ynq (hT : P.toTables = Q.toTables) (hsame : ∀ f, R f = true → P.funcs[f]? = Q.funcs[f]?) (hQ : ∀ f, R f = true → ywc Q f) {Esc : Next → Prop} {L : Lim} {w v : World} {es : Array Event} (fr : Frame) (o : Oper) (hk : okG Q o.op = true) (ho : ycv R o.op = true) (hR : Rel yca L w v) (he : w.heap = v.heap) : ybj yca L Esc w es ((execOp fr.eval o).runT P w es) ((execOp fr.eval o).run Q v) := by
 rcases yxg hk with h | ⟨src, dst, x, hop⟩
 ·exact zey hT hsame hQ fr o h ho L w v es hR
 ·exact ysl hT fr.eval o hop hR he
theorem PairB.static {P Q : Program} {R : Nat → Bool} {ok : Op → Bool} (hok : ∀ o, ok o = true → okG Q o = true ∧ ycv R o = true) (hT : P.toTables = Q.toTables) (hQ : ∀ f, R f = true → ywc Q f) (hsame : ∀ f, R f = true → P.funcs[f]? = Q.funcs[f]?)
  (hcode : ∀ (f : Nat) fn c, R f = true → Q.funcs[f]? = some fn → fn.body = some c → ybe ok c = true) {E : Nat → Prop} (hE : ∀ f, ¬ E f → R f = true) : PairB P Q ok (fun f => R f = true) (fun _ => False) (fun f => E f) E where
 tables := hT
 ends := fun fr o v a v' ho _ e => (yqj hQ fr o (hok _ ho).2 (hok _ ho).1 a v' e).1
 into := fun fr o f args v v' ho _ e => by
  have h := (yqj hQ fr o (hok _ ho).2 (hok _ ho).1 _ v' e).2
  obtain ⟨fn, hq, _⟩ := hQ f h
  exact ⟨h, fn, hq⟩
 same := fun f h _ => hsame f h
 code := fun f fn c h _ h1 h2 => hcode f fn c h h1 h2
 sub := fun _ h => h.elim
 subE := fun _ h => h
 res := fun f fQ hE' h => ⟨fQ, by rw [hsame f (hE f hE')]; exact h, rfl⟩
theorem yqz.static {P Q : Program} {R : Nat → Bool} (hT : P.toTables = Q.toTables) (hQ : ∀ f, R f = true → ywc Q f) (hsame : ∀ f, R f = true → P.funcs[f]? = Q.funcs[f]?)
  (hcode : ∀ (f : Nat) fn c, R f = true → Q.funcs[f]? = some fn → fn.body = some c → ybe (fun o => ydo Q o && ycv R o) c = true) {E : Nat → Prop} (hE : ∀ f, ¬ E f → R f = true) : yqz P Q (fun o => ydo Q o && ycv R o) (fun f => R f = true) (fun _ => False) (fun f => E f) E :=
 ⟨PairB.static (fun o ho => ⟨okG_of (Bool.and_eq_true_iff.1 ho).1, (Bool.and_eq_true_iff.1 ho).2⟩) hT hQ hsame hcode hE, fun X fr o ho => zey hT hsame hQ fr o (Bool.and_eq_true_iff.1 ho).1 (Bool.and_eq_true_iff.1 ho).2⟩
end
end Go.Sim
