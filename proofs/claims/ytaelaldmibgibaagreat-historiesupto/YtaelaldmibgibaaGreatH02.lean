/- Conversions, methods, calls are done alike. Operators, conversions, methods are done alike. A string's bytes laid out are laid alike. Conversions are done alike. Methods, rounds, panics are done alike. unsafe.String: the bytes are read ahead of the freeze. Calls are done alike, but where a function is entered that differs. Every operation of a checked text is done alike. Every operation of a checked text is done alike: all together. What an operation that is let by may yield; a call's results; the code that is let by. A step of a goroutine is taken alike by two programs in two worlds. A step of a goroutine is taken alike by two programs in two worlds. A step of a goroutine is taken alike by two programs in two worlds: the step. A step of a goroutine is taken alike by two programs in two worlds: all steps. Code that calls by name alone, and within a set: where it goes. -/
import Derived.Test.YtaelaldmibgibaaGreatH01

set_option linter.unusedVariables false
set_option linter.unusedSimpArgs false
set_option linter.unusedSectionVars false
set_option maxHeartbeats 1000000

namespace Go.Sim
variable {P Q : Program} {X : Nat → Prop}
variable (hT : P.toTables = Q.toTables)
theorem zdw {Esc : Value → Prop} (x y : Value) : yac P Q X Esc (Builtin.min2 x y) := by
 unfold Builtin.min2
 (repeat' first
  |exact yac.pure _
  |exact yac.halt _
  |with_reducible first | assumption | apply zbd
  |refine yac.bind ?_ (fun _ => ?_)
  |split
  |dsimp only)
theorem zds {Esc : Value → Prop} (x y : Value) : yac P Q X Esc (Builtin.max2 x y) := by
 unfold Builtin.max2
 (repeat' first
  |exact yac.pure _
  |exact yac.halt _
  |with_reducible first | assumption | apply zbd
  |refine yac.bind ?_ (fun _ => ?_)
  |split
  |dsimp only)
theorem zcj {β : Type} {f : β → Value → Sem β} (hf : ∀ a b, Sim P Q X (f a b)) (l : List Value) : ∀ a, Sim P Q X (l.foldlM f a) := by
 induction l with
 |nil => exact fun a => yac.pure _
 |cons b l ih => exact fun a => yac.bind (hf a b) fun c => ih c
theorem zdv {Esc : Value → Prop} (ts : Array TypeId) (t : TypeId) (x : Array Value) : yac P Q X Esc (Builtin.min_ ts t x) := by
 unfold Builtin.min_
 split
 ·exact yac.halt _
 ·exact (zcj (fun _ _ => zdw _ _) _ _).of
theorem zdr {Esc : Value → Prop} (ts : Array TypeId) (t : TypeId) (x : Array Value) : yac P Q X Esc (Builtin.max_ ts t x) := by
 unfold Builtin.max_
 split
 ·exact yac.halt _
 ·exact (zcj (fun _ _ => zds _ _) _ _).of
theorem zaw {Esc : Value → Prop} (x : Value) : yac P Q X Esc (Conv.bytesToString x) := by
 unfold Conv.bytesToString
 (repeat' first
  |exact yac.pure _
  |exact yac.halt _
  |with_reducible first | assumption | apply zdf
  |refine yac.bind ?_ (fun _ => ?_)
  |refine zcm (fun _ _ => ?_) _
  |split
  |dsimp only)
theorem zey {Esc : Value → Prop} (x : Value) : yac P Q X Esc (Conv.runesToString x) := by
 unfold Conv.runesToString
 (repeat' first
  |exact yac.pure _
  |exact yac.halt _
  |with_reducible first | assumption | apply zdf
  |refine yac.bind ?_ (fun _ => ?_)
  |refine zcm (fun _ _ => ?_) _
  |split
  |dsimp only)
theorem zfv {Esc : Value → Prop} (t : TypeId) (x : ByteArray) : yac P Q X Esc (Conv.stringToRunes t x) := by
 unfold Conv.stringToRunes
 (repeat' first
  |exact yac.pure _
  |with_reducible first | assumption | apply zec | apply zbd
  |refine yac.bind ?_ (fun _ => ?_)
  |split
  |dsimp only)
theorem zci {Esc : Value → Prop} (k : FloatKind) (b : Nat) (l : IntKind) : yac P Q X Esc (Conv.floatToInt k b l) := by
 unfold Conv.floatToInt
 (repeat' first
  |exact yac.pure _
  |with_reducible first | assumption | apply zbd
  |refine yac.bind ?_ (fun _ => ?_)
  |split
  |dsimp only)
theorem zbh {Esc : Value → Prop} (k : FloatKind) (a b : Nat) (l : FloatKind) : yac P Q X Esc (Conv.complexToComplex k a b l) := by
 unfold Conv.complexToComplex
 (repeat' first
  |exact yac.pure _
  |exact yac.halt _
  |with_reducible first | assumption | apply zch
  |refine yac.bind ?_ (fun _ => ?_)
  |split
  |dsimp only)
theorem zfx (hT : P.toTables = Q.toTables) {Esc : Nat × Nat → Prop} (a b : Addr) : yac P Q X Esc (Op.twoPlaces a b) := by
 unfold Op.twoPlaces
 refine zep (by simp only [hT]) ?_
 (repeat' first
  |exact yac.pure _
  |exact yac.halt _
  |with_reducible first | assumption | apply zav
  |refine yac.bind ?_ (fun _ => ?_)
  |split
  |dsimp only)
theorem zac (hT : P.toTables = Q.toTables) {Esc : Value → Prop} (k : IntKind) (a b : Addr) : yac P Q X Esc (Op.addrSub k a b) := by
 unfold Op.addrSub
 (repeat' first
  |exact yac.pure _
  |with_reducible first | assumption | apply zfx
  |refine yac.bind ?_ (fun _ => ?_)
  |split
  |dsimp only)
theorem zaa (hT : P.toTables = Q.toTables) {Esc : Value → Prop} (op : BinOp) (a b : Addr) : yac P Q X Esc (Op.addrCmp op a b) := by
 unfold Op.addrCmp
 (repeat' first
  |exact yac.pure _
  |exact yac.halt _
  |with_reducible first | assumption | apply zfx
  |refine yac.bind ?_ (fun _ => ?_)
  |split
  |dsimp only)
theorem zab (hT : P.toTables = Q.toTables) {Esc : Value → Prop} (k : IntKind) (a : Addr) (n : Int) : yac P Q X Esc (Op.addrMod k a n) := by
 unfold Op.addrMod
 refine zff (fun _ _ _ => rfl) fun x => ?_
 (repeat' first
  |exact yac.pure _
  |exact yac.halt _
  |with_reducible first | assumption | apply zfz | apply zav
  |refine yac.bind ?_ (fun _ => ?_)
  |split
  |dsimp only)
theorem yac.shapeX {α : Type} {Esc : α → Prop} {r : Nat} {k : Option (TypeId × Nat) → Sem α} (hX : ∀ t v, ∃ x v', (k (some (t, 0))).run Q v = .halt x v' ∧ yhm x = true) (hk : ∀ x, yac P Q X Esc (k x)) : yac P Q X Esc (Go.shape r >>= k) := by
 intro L w v es h
 show Meets X L Esc w es ((Sem.shape r k).runT P w es) ((Sem.shape r k).run Q v)
 simp only [Sem.run, Sem.runT]
 by_cases hx : X r
 ·obtain ⟨c, t, hw, hv⟩ := h.bare r hx
  simp only [World.shape?, hv]
  obtain ⟨x, v', e, hn⟩ := hX t v
  rw [show (#[] : Array Value).size = 0 from rfl, e]
  exact .halt hn
 ·have : v.shape? r = w.shape? r := h.shapeN hx
  rw [this]
  exact hk _ _ _ _ _ h
theorem cab_nil (p : Program) (d : Nat) (e : TypeId) (off : Nat) (b : Int) : cellAtBytes p d e 0 off b = none := by
 unfold cellAtBytes
 dsimp only
 split
 ·rfl
 ·cases byteOfCell p d e (off % p.cellsOf e) with
  |none => rfl
  |some here =>
   show (if _ then _ else _) = _
   rw [if_pos]
   ·rfl
   ·simp only [Nat.zero_mul, Bool.or_eq_true, decide_eq_true_eq, Int.ofNat_eq_natCast]
    omega
theorem cob_eq (hT : P.toTables = Q.toTables) (d : Nat) : ∀ t b, cellOfByte P d t b = cellOfByte Q d t b := by
 induction d with
 |zero => intro t b; rfl
 |succ d ih =>
  intro t b
  unfold cellOfByte
  simp only [yfk hT, yfr hT, ykb hT, ih]
theorem cab_eq (hT : P.toTables = Q.toTables) (d : Nat) (e : TypeId) (c off : Nat) (b : Int) : cellAtBytes P d e c off b = cellAtBytes Q d e c off b := by
 unfold cellAtBytes
 simp only [yfr hT, ykb hT, yhz hT, cob_eq hT]
theorem zgf (hT : P.toTables = Q.toTables) {Esc : Value → Prop} (ts : Array TypeId) (t : TypeId) (x : Array Value) : yac P Q X Esc (Builtin.unsafeAdd_ ts t x) := by
 have tail : ∀ (ptr : Option Addr) (n : Int), yac P Q X Esc (match ptr with
   |some a => Go.shape a.block >>= fun s => match s with
    |some (e, cells) => program >>= fun p => match cellAtBytes p p.depth e (cells / p.cellsOf e) a.off n with
     |some off => pure (.pointer (some { a with off }))
     |none => unsupported (.unsafePointer "Add")
    |_ => unsupported (.unsafePointer "Add")
   |_ => unsupported (.unsafePointer "Add")) := by
  intro ptr n
  split
  ·refine yac.shapeX (fun t v => ?_) fun s => ?_
   ·refine ⟨.unsupported (.unsafePointer "Add"), v, ?_, rfl⟩
    show Sem.run Q (Sem.program fun p => _) v = _
    simp only [Sem.run, Nat.zero_div, cab_nil]
    rfl
   ·split
    ·refine zep (by simp only [cab_eq hT, yfr hT, ydy hT]) ?_
     (repeat' first
  |exact yac.pure _
  |exact yac.halt _
  |with_reducible first | assumption | apply zak
  |refine yac.bind ?_ (fun _ => ?_)
  |split
  |dsimp only)
    ·exact yac.halt _
  ·exact yac.halt _
 rcases x with ⟨_ | ⟨v, _ | ⟨l, _ | ⟨_, _⟩⟩⟩⟩ <;> first | exact yac.halt _ | skip
 cases v <;> first | exact yac.halt _ | skip
 next ptr =>
 refine yac.bind (zak l) fun n => ?_
 dsimp only
 split
 ·split
  ·exact zgi (fun v => ⟨_, _, rfl, (by rfl)⟩) (yac.pure _)
  ·exact yac.halt _
 ·split
  ·exact yac.bind (yac.halt _) fun _ => tail ptr n
  ·exact tail ptr n
end Go.Sim

namespace Go.Sim
variable {P Q : Program} {X : Nat → Prop}
variable (hT : P.toTables = Q.toTables)
theorem zam {Esc : Value → Prop} (a : Addr) (b : Bool) : yac P Q X Esc (asNumber a b) := yac.bind (zeb _ rfl) fun _ => yac.pure _
theorem zdx (hT : P.toTables = Q.toTables) {Esc : Value → Prop} (t : TypeId) (x y : Value) : yac P Q X Esc (movedNumber t x y) := by
 unfold movedNumber
 (repeat' first
  |exact yac.pure _
  |exact yac.halt _
  |with_reducible first | assumption | apply zgd | apply zao | apply zgf | apply zam
  |refine yac.bind ?_ (fun _ => ?_)
  |split
  |dsimp only)
theorem zdy (hT : P.toTables = Q.toTables) {Esc : Value → Prop} (t : TypeId) (x y : Value) : yac P Q X Esc (movedPointer t x y) := by
 unfold movedPointer
 (repeat' first
  |exact yac.halt _
  |with_reducible first | assumption | apply zej | apply zgf
  |refine yac.bind ?_ (fun _ => ?_)
  |split
  |dsimp only)
theorem zap (hT : P.toTables = Q.toTables) {Esc : Value → Prop} (op : BinOp) (t : TypeId) (x y : Value) : yac P Q X Esc (binOp op t x y) := by
 unfold binOp
 split
 all_goals first
  |exact zdx hT _ _ _
  |(refine yac.bind (zgd hT _) (fun d => ?_)
    split
    ·first
      |(rw [if_pos rfl]; exact zdy hT _ _ _)
      |(rw [if_neg (by decide)]; exact zdx hT _ _ _)
    ·rw [if_neg (by decide)]; exact zdx hT _ _ _)
  |(repeat' first
  |exact yac.pure _
  |exact yac.halt _
  |with_reducible first | assumption | apply zgd | apply zao | apply zbu | apply zcv | apply zcw | apply zfh | apply zft | apply zcf | apply zcg | apply zbg | apply zac | apply zaa | apply zab | apply zdx | apply zdy
  |refine yac.bind ?_ (fun _ => ?_)
  |split
  |dsimp only)
end Go.Sim

namespace Go.Sim
variable {P Q : Program} {X : Nat → Prop}
theorem zfu {Esc : Value → Prop} (t : TypeId) (s : ByteArray) : yac P Q X Esc (Conv.stringToBytes t s) := by
 unfold Conv.stringToBytes
 refine yac.bind (zbd _) fun cap => ?_
 intro L w v es h
 generalize hc : (s.data.map fun b => Value.int .u8 b.toNat) ++ Array.replicate (cap - s.size) (Value.int .u8 0) = c
 have hXn : ¬ X w.heap.size := by
  intro hx
  exact absurd (h.xlt hx) (Nat.lt_irrefl _)
 have e1 : ∀ (R : Program) (u : World), (do let a ← newRow t c
                                            markStringish a
                                            pure (.slice (some a) s.size cap) : Sem Value).run R u = .ok (.slice (some ⟨u.heap.size, 0, none⟩) s.size cap) (({ u with heap := u.heap.push (.cells c t) } : World).freeze { block := u.heap.size, off := c.size } 1) := by
  intro R u
  show Sem.run R (Sem.new (.cells c t) fun r => Sem.shape r fun x => _) u = _
  simp only [Sem.run, World.shape?, Array.getElem?_push_size]
  rfl
 have e2 : ∀ (R : Program) (u : World), (do let a ← newRow t c
                                            markStringish a
                                            pure (.slice (some a) s.size cap) : Sem Value).runT R u es = (.ok (.slice (some ⟨u.heap.size, 0, none⟩) s.size cap) (({ u with heap := u.heap.push (.cells c t) } : World).freeze { block := u.heap.size, off := c.size } 1), es) := by
  intro R u
  show Sem.runT R (Sem.new (.cells c t) fun r => Sem.shape r fun x => _) u es = _
  simp only [Sem.runT, World.shape?, Array.getElem?_push_size]
  rfl
 have hR := (h.pushed (.cells c t) rfl).freeze (a := { block := w.heap.size, off := c.size }) hXn 1
 show Meets X L Esc w es (Sem.runT P (newRow t ((s.data.map fun b => Value.int .u8 b.toNat) ++ Array.replicate (cap - s.size) (Value.int .u8 0)) >>= fun a => markStringish a >>= fun _ => pure (.slice (some a) s.size cap)) w es) (Sem.run Q (newRow t ((s.data.map fun b => Value.int .u8 b.toNat) ++ Array.replicate (cap - s.size) (Value.int .u8 0)) >>= fun a => markStringish a >>= fun _ => pure (.slice (some a) s.size cap)) v)
 rw [hc, e1, e2, h.size]
 refine fun _ => .inr ⟨_, #[], by simp only [Array.append_empty], hR, ?_, by simp⟩
 exact (h.grows_push _).trans (yjm hXn 1)
end Go.Sim

namespace Go.Sim
variable {P Q : Program} {X : Nat → Prop}
variable (hT : P.toTables = Q.toTables)
theorem zgc (hT : P.toTables = Q.toTables) {α : Type} {Esc : α → Prop} {t : TypeId} {f : TypeDesc → Sem α} (h : ∀ d, Q.underlying t = some d → yac P Q X Esc (f d)) : yac P Q X Esc (underlying t >>= f) := by
 show yac P Q X Esc (program >>= fun p => (match p.underlying t with | some d => pure d | none => stuck "no such type" : Sem TypeDesc) >>= f)
 refine zep (by simp only [yfk hT]) ?_
 cases hq : Q.underlying t with
 |none => exact yac.halt _
 |some d => exact h d hq
theorem zbj (hT : P.toTables = Q.toTables) {Esc : Value → Prop} (src dst : TypeId) (x : Value) (h1 : Q.underlying src ≠ some .unsafePointer) (h2 : Q.underlying dst ≠ some .unsafePointer) (h3 : ∀ e, Q.underlying dst = some (.slice e) → src ≠ dst) : yac P Q X Esc (convert src dst x) := by
 unfold convert
 refine zgc hT fun d hd => zgc hT fun e he => ?_
 split
 ·exact yac.pure _
 ·exact yac.pure _
 ·exact zci _ _ _
 ·exact zch _ _ _
 ·exact zbh _ _ _ _
 ·exact yac.pure _
 ·exact yac.pure _
 ·refine yac.bind (zgd hT _) fun _ => ?_
  split
  ·exact zfu _ _
  ·exact zfv _ _
  ·exact yac.halt _
 ·have hne : (src == dst) = false := by simpa using h3 _ he
  refine yac.bind (zgd hT _) fun _ => ?_
  rw [hne]
  split
  ·next h => cases h
  ·exact yac.halt _
 ·refine yac.bind (zgd hT _) fun _ => ?_
  split
  ·exact zaw _
  ·exact zey _
  ·exact yac.halt _
 ·exact absurd hd h1
 ·exact absurd he h2
 ·exact yac.halt _
 ·exact yac.halt _
end Go.Sim

namespace Go.Sim
variable {P Q : Program} {X : Nat → Prop}
variable (hT : P.toTables = Q.toTables)
theorem zcq (hT : P.toTables = Q.toTables) {Esc : Value → Prop} (t : TypeId) (x : Place) : yac P Q X Esc (x.get t) := by
 unfold Place.get
 (repeat' first
  |exact yac.pure _
  |with_reducible first | assumption | apply zdh
  |split
  |dsimp only)
theorem zck (hT : P.toTables = Q.toTables) (l : List FieldStep) : ∀ t x, Sim P Q X (follow l t x) := by
 induction l with
 |nil => exact fun t x => yac.pure _
 |cons s l ih =>
  intro t x
  unfold follow
  (repeat' first
  |exact yac.pure _
  |exact yac.halt _
  |with_reducible first | assumption | apply ih | apply zgd | apply zah | apply zem | apply zcb | apply zcq
  |refine yac.bind ?_ (fun _ => ?_)
  |split
  |dsimp only)
theorem zgk (hT : P.toTables = Q.toTables) {Esc : Value → Prop} (ts : Array TypeId) (t : TypeId) (x : Array Value) : yac P Q X Esc (Builtin.ssaWrapNilChk_ ts t x) := by
 unfold Builtin.ssaWrapNilChk_
 rcases x with ⟨_ | ⟨a, _ | ⟨b, _ | ⟨c, _ | ⟨_, _⟩⟩⟩⟩⟩ <;> first | exact yac.halt _ | skip
 cases b <;> first | exact yac.halt _ | skip
 cases c <;> first | exact yac.halt _ | skip
 cases a <;> first | exact yac.halt _ | skip
 next p =>
 cases p
 ·refine yac.bind (zbd _) (fun _ => ?_)
  (repeat' first
  |exact yac.pure _
  |exact yac.halt _
  |with_reducible first | assumption | apply zfz | apply zgd | apply zez | apply zbd
  |refine yac.bind ?_ (fun _ => ?_)
  |split
  |dsimp only)
 ·exact yac.pure _
theorem zev (hT : P.toTables = Q.toTables) {Esc : Value → Prop} (t : TypeId) (x : Place) (b : Bool) (o : Option String) : yac P Q X Esc (receiverAt t x b o) := by
 unfold receiverAt
 (repeat' first
  |exact yac.pure _
  |exact yac.halt _
  |with_reducible first | assumption | apply zgd | apply zdh | apply zah | apply zcq | apply zgk | refine zeq ?_
  |refine yac.bind ?_ (fun _ => ?_)
  |split
  |dsimp only)
theorem zew (hT : P.toTables = Q.toTables) {Esc : Value → Prop} (t : TypeId) (v : Value) (p : Array FieldStep) (b : Bool) : yac P Q X Esc (receiverVia t v p b) := by
 unfold receiverVia
 (repeat' first
  |with_reducible first | assumption | apply zck | apply zev
  |refine yac.bind ?_ (fun _ => ?_)
  |split
  |dsimp only)
theorem zdu (hT : P.toTables = Q.toTables) (n : Nat) : ∀ t v s, Sim P Q X (method n t v s) := by
 induction n with
 |zero => exact fun t v s => yac.halt _
 |succ n ih =>
  intro t v s
  unfold method
  (repeat' first
  |exact yac.pure _
  |exact yac.halt _
  |with_reducible first | assumption | apply ih | apply zfz | apply zez | apply zcq | apply zck | apply zev
  |refine yac.bind ?_ (fun _ => ?_)
  |split
  |dsimp only)
theorem zcl (hT : P.toTables = Q.toTables) (l : List FieldStep) : ∀ t x, Sim P Q X (followBlind l t x) := by
 induction l with
 |nil => exact fun t x => yac.pure _
 |cons s l ih =>
  intro t x
  unfold followBlind
  (repeat' first
  |exact yac.pure _
  |exact yac.halt _
  |with_reducible first | assumption | apply ih | apply zgd | apply zem
  |refine yac.bind ?_ (fun _ => ?_)
  |split
  |dsimp only)
theorem zeg (hT : P.toTables = Q.toTables) (n : Nat) : ∀ t v s, Sim P Q X (nilAhead n t v s) := by
 induction n with
 |zero => exact fun t v s => yac.pure _
 |succ n ih =>
  intro t v s
  unfold nilAhead
  (repeat' first
  |exact yac.pure _
  |exact yac.halt _
  |with_reducible first | assumption | apply ih | apply zfz | apply zgd | apply zcl
  |refine yac.bind ?_ (fun _ => ?_)
  |split
  |dsimp only)
theorem zcr {Esc : Loop → Prop} (l : Nat) : yac P Q X Esc (Instr.getLoop l) := by
 unfold Instr.getLoop
 (repeat' first
  |exact yac.pure _
  |exact yac.halt _
  |with_reducible assumption
  |((with_reducible refine zcs ?_ (fun _ => ?_)); · (intro o ho; cases o <;> first | (cases ho; done) | exact .inl rfl | exact .inr fun v => ⟨_, _, rfl, (by rfl)⟩))
  |split
  |dsimp only)
theorem zgl {Esc : Next → Prop} (l : Nat) (x : Array Value) : yac P Q X Esc (Instr.yield l x) := by
 unfold Instr.yield
 (repeat' first
  |exact yac.pure _
  |exact yac.halt _
  |with_reducible first | assumption | apply zcr
  |refine yac.bind ?_ (fun _ => ?_)
  |split
  |dsimp only)
end Go.Sim

namespace Go.Sim
variable {P Q : Program} {X : Nat → Prop}
variable (hT : P.toTables = Q.toTables)
theorem held_eq (hT : P.toTables = Q.toTables) (t : TypeId) : P.stoodInHeld t = Q.stoodInHeld t := by unfold Program.stoodInHeld Program.stoodInAs; simp only [yfk hT, uid_eq hT, ydy hT, ynr hT, hT]
theorem layout_eq (hT : P.toTables = Q.toTables) (d : Nat) : ∀ t u, sameLayout P d t u = sameLayout Q d t u := by
 induction d with
 |zero => exact fun _ _ => rfl
 |succ d ih =>
  intro t u
  unfold sameLayout
  simp only [uid_eq hT, yfk hT, held_eq hT, ih]
theorem row_eq (hT : P.toTables = Q.toTables) (fits : TypeId → Bool) (d : Nat) : ∀ e c o n, rowAt P fits d e c o n = rowAt Q fits d e c o n := by
 induction d with
 |zero => exact fun _ _ _ _ => rfl
 |succ d ih =>
  intro e c o n
  unfold rowAt
  simp only [yfr hT, yfk hT, held_eq hT, ih]
theorem lies_eq (hT : P.toTables = Q.toTables) (d : Nat) : ∀ e c o u n, liesAt P d e c o u n = liesAt Q d e c o u n := by
 induction d with
 |zero => exact fun _ _ _ _ _ => rfl
 |succ d ih =>
  intro e c o u n
  unfold liesAt
  simp only [yfk hT, ydy hT, row_eq hT, ih]
  have : (fun x => sameLayout P Q.depth x u) = (fun x => sameLayout Q Q.depth x u) := funext fun x => layout_eq hT _ _ _
  rw [this]
theorem zgh (hT : P.toTables = Q.toTables) {Esc : Bool → Prop} (a : Addr) (hX : ¬ X a.block) (u : TypeId) (n : Nat) : yac P Q X Esc (variablesAt a u n) := by
 intro L w v es h
 show Meets X L Esc w es ((Sem.program fun p => Sem.shape a.block fun x => _).runT P w es) ((Sem.program fun p => Sem.shape a.block fun x => _).run Q v)
 simp only [Sem.run, Sem.runT, h.shapeN hX]
 cases w.shape? a.block with
 |none => exact yac.pure _ L w v es h
 |some x =>
  obtain ⟨e, c⟩ := x
  simp only [ydy hT, yfr hT, lies_eq hT]
  exact yac.pure _ L w v es h
theorem ytj {L : Lim} {w v : World} (h : Rel X L w v) (Q : Program) {a : Addr} (hX : X a.block) (u : TypeId) (n : Nat) : ∃ y v', (do
      if ← variablesAt a u (n + 1) then do
       let s ← loadBytes a .empty (n + 1)
       freeze a (n + 1)
       pure (.string s)
      else unsupported (.unsafePointer "String: not so many bytes at ptr") : Sem Value).run Q v = .halt y v' ∧ yhm y = true := by
 have e : ∃ b, (variablesAt a u (n + 1)).run Q v = .ok b v := by
  show ∃ b, (Sem.program fun p => Sem.shape a.block fun x => _).run Q v = .ok b v
  simp only [Sem.run]
  cases v.shape? a.block with
  |none => exact ⟨_, rfl⟩
  |some x => exact ⟨_, rfl⟩
 obtain ⟨b, e⟩ := e
 show ∃ y v', ((variablesAt a u (n + 1)).bind fun b => _).run Q v = _ ∧ _
 rw [run_bind, e]
 cases b with
 |false => exact ⟨_, _, rfl, (by rfl)⟩
 |true =>
  have hc : v.cell? a = none := h.xcell hX
  obtain ⟨y, e2, hy⟩ := h.far Q a (Mode.plain == .atomic)
  refine ⟨y, v, ?_, hy⟩
  show (Sem.load .plain a fun z => _).run Q v = _
  simp only [Sem.run, hc, e2]
end Go.Sim

namespace Go.Sim
variable {P Q : Program} {X : Nat → Prop}
variable (hT : P.toTables = Q.toTables)
def EscZ (Z : Nat → Prop) : Next → Prop
 |.enter f _ => Z f
 |_ => False
structure Twin (P Q : Program) (Z : Nat → Prop) : Prop where
 tables : P.toTables = Q.toTables
 size : P.funcs.size = Q.funcs.size
 body : ∀ (f : Nat) fn, Q.funcs[f]? = some fn → fn.body.isNone = false ∧ (fn.name == "runtime.NumGoroutine") = false
 bodied : ∀ (f : Nat) fn, ¬ Z f → Q.funcs[f]? = some fn → ∃ fn', P.funcs[f]? = some fn' ∧ fn'.body.isNone = false ∧ (fn'.name == "runtime.NumGoroutine") = false
theorem zay {Z : Nat → Prop} (T : Twin P Q Z) (f : Nat) (args : Array Value) : yac P Q X (EscZ Z) (callFunc f args) := by
 intro L w v es h
 show Meets X L (EscZ Z) w es ((Sem.program fun p => match p.funcs[f]? with
  |none => stuck "call: no such function"
  |some fn => _).runT P w es) ((Sem.program fun p => match p.funcs[f]? with
  |none => stuck "call: no such function"
  |some fn => _).run Q v)
 simp only [Sem.run, Sem.runT]
 cases hq : Q.funcs[f]? with
 |none => exact .halt rfl
 |some fn =>
  obtain ⟨h1, h2⟩ := T.body f fn hq
  dsimp only
  rw [h1, h2]
  by_cases hz : Z f
  ·exact fun _ => .inl hz
  ·obtain ⟨fn', hp, h3, h4⟩ := T.bodied f fn hz hq
   rw [hp]
   dsimp only
   rw [h3, h4]
   exact fun _ => .inr ⟨w, #[], by simp only [Array.append_empty]; rfl, h, .refl X w, by simp⟩
theorem zaz {Z : Nat → Prop} (T : Twin P Q Z) (r : Value) (n : String) (args : Array Value) : yac P Q X (EscZ Z) (callMethod r n args) := by
 unfold callMethod
 split
 ·refine zep (by simp only [T.tables]) ?_
  refine yac.bind (zdu T.tables _ _ _ _) fun x => ?_
  exact zay T _ _
 ·exact zez T.tables _
 ·exact yac.halt _
theorem zel {Esc : Int → Prop} (hT : P.toTables = Q.toTables) : yac P Q X Esc Instr.panicnil := by
 unfold Instr.panicnil
 show yac P Q X Esc (Sem.sys .env fun r => _)
 refine yac.sys (fun os => ⟨_, rfl⟩) fun r => ?_
 cases r <;> first | exact yac.halt _ | skip
 exact zep (by simp only [hT]) (yac.pure _)
theorem zek {Esc : Value → Prop} (hT : P.toTables = Q.toTables) (x : Value) : yac P Q X Esc (Instr.panic x) := by
 unfold Instr.panic
 split
 ·exact yac.halt _
 ·refine yac.bind (zel hT) fun n => ?_
  split
  ·exact yac.halt _
  ·exact zez hT _
 ·exact yac.halt _
theorem zde (n : Nat) : ∀ a acc, Sim P Q X (loadBytes a acc n) := by
 induction n with
 |zero => exact fun a acc => yac.pure _
 |succ n ih =>
  intro a acc
  unfold loadBytes
  (repeat' first
  |exact yac.pure _
  |exact yac.halt _
  |with_reducible first | assumption | apply ih | apply zdc
  |refine yac.bind ?_ (fun _ => ?_)
  |split
  |dsimp only)
theorem bind_never {α β : Type} {Esc : β → Prop} {s : Sem α} {f : α → Sem β} (h : Sim P Q X s) (hn : ∀ v a v', s.run Q v ≠ .ok a v') : yac P Q X Esc (s.bind f) := by
 intro L w v es hR hL
 have h1 := h L w v es hR
 have h2 := hn v
 rw [run_bind] at hL ⊢
 rw [yil]
 generalize s.run Q v = r at h1 hL h2
 cases r with
 |ok a v' => exact absurd rfl (h2 a v')
 |halt y v' =>
  refine ⟨(h1 hL).1, fun z hz => ?_⟩
  obtain ⟨w', new, e, hR', hs, hn⟩ := (h1 hL).2 z hz
  rw [e]
  exact ⟨w', new, rfl, hR', hs, hn⟩
theorem yiy {α β : Type} {s : Sem α} {f : α → Sem β} (h : ∀ a v b v', (f a).run Q v ≠ .ok b v') : ∀ v b v', (s.bind f).run Q v ≠ .ok b v' := by
 intro v b v' e
 rw [run_bind] at e
 split at e
 ·exact h _ _ _ _ e
 ·cases e
theorem yih {α : Type} (x : RuntimeError) : ∀ v a v', (runtimePanic x : Sem α).run Q v ≠ .ok a v' := by
 unfold runtimePanic
 refine yiy fun p => ?_
 dsimp only
 split <;> first | (intro v a v' e; cases e; done) | exact yiy fun _ => yiy fun _ => fun v a v' e => by cases e
theorem zgg {Esc : Value → Prop} (hT : P.toTables = Q.toTables) (ts : Array TypeId) (t : TypeId) (x : Array Value) : yac P Q X Esc (Builtin.unsafeString_ ts t x) := by
 have tail : ∀ (a : Addr) (pt : TypeId) (n : Int), ¬ n = 0 → ¬ n < 0 → yac P Q X Esc (do
   if ← variablesAt a (← elemOf pt) n.toNat then do
    let s ← loadBytes a .empty n.toNat
    freeze a n.toNat
    pure (.string s)
   else unsupported (.unsafePointer "String: not so many bytes at ptr")) := by
  intro a pt n h0 h1
  refine yac.bind (zbp hT _) fun u => ?_
  obtain ⟨m, hm⟩ : ∃ m, n.toNat = m + 1 := ⟨n.toNat - 1, by omega⟩
  rw [hm]
  intro L w v es h
  by_cases hX : X a.block
  ·obtain ⟨y, v', e, hy⟩ := ytj h Q hX u m
   rw [e]
   exact .halt hy
  ·refine (yac.bind (zgh hT a hX u (m + 1)) fun b => ?_) L w v es h
   split
   ·refine yac.bind (zde _ _ _) fun s => ?_
    intro L w v es h
    show Meets X L Esc w es ((Sem.freeze a (m + 1) (Sem.pure (.string s))).runT P w es) ((Sem.freeze a (m + 1) (Sem.pure (.string s))).run Q v)
    simp only [Sem.run, Sem.runT]
    refine Meets.step (pre := #[]) (w1 := w.freeze a (m + 1)) ?_ (yjm hX _) (by simp)
    simp only [Array.append_empty]
    exact yac.pure (P := P) (Q := Q) _ _ _ _ _ (h.freeze hX _)
   ·exact yac.halt _
 unfold Builtin.unsafeString_
 rcases x with ⟨_ | ⟨v, _ | ⟨l, _ | ⟨_, _⟩⟩⟩⟩ <;> first | exact yac.halt _ | skip
 cases v <;> first | exact yac.halt _ | skip
 next p =>
 refine yac.bind (zak l) fun n => ?_
 dsimp only
 cases ts[0]? with
 |none => exact yac.halt _
 |some pt =>
  have body : ∀ n : Int, ¬ n < 0 → yac P Q X Esc (match p with
    |none => if n = 0 then pure (.string .empty) else runtimePanic (.error "unsafe.String: ptr is nil and len is not zero")
    |some a => if n = 0 then pure (.string .empty) else do
      if ← variablesAt a (← elemOf pt) n.toNat then do
       let s ← loadBytes a .empty n.toNat
       freeze a n.toNat
       pure (.string s)
      else unsupported (.unsafePointer "String: not so many bytes at ptr")) := by
   intro n hn
   cases p with
   |none =>
    dsimp only
    split
    ·exact yac.pure _
    ·exact zez hT _
   |some a =>
    dsimp only
    split
    ·exact yac.pure _
    ·next h0 => exact tail a pt n h0 hn
  dsimp only
  split
  ·exact bind_never (zez hT _) (yih _)
  ·next hn =>
   split
   ·exact yac.bind (yac.halt _) fun _ => body _ hn
   ·exact body _ hn
def okB : Builtin → Bool
 |.append | .cap | .clear | .copy | .delete | .len | .max | .min | .panic | .recover | .make | .new | .unsafeString | .unsafeSizeof => true
 |_ => false
theorem zau {Esc : Next → Prop} (hT : P.toTables = Q.toTables) (b : Builtin) (hb : okB b = true) (ts : Array TypeId) (t : TypeId) (cs : Array Bool) (x : Array Value) : yac P Q X Esc (builtin b ts t cs x) := by
 cases b <;> first | (cases hb; done) | skip
 all_goals unfold builtin
 ·exact yac.bind (zae hT _ _ _) fun _ => yac.pure _
 ·exact yac.bind (zbb hT _ _ _) fun _ => yac.pure _
 ·exact yac.bind (zbe hT _ _ _) fun _ => yac.pure _
 ·exact yac.bind (zbk hT _ _ _) fun _ => yac.pure _
 ·exact yac.bind (zbo hT _ _ _) fun _ => yac.pure _
 ·exact yac.bind (zda hT _ _ _) fun _ => yac.pure _
 ·exact yac.halt _
 ·exact yac.bind (zdr _ _ _) fun _ => yac.pure _
 ·exact yac.bind (zdv _ _ _) fun _ => yac.pure _
 ·exact yac.halt _
 ·exact yac.bind (zek hT _) fun _ => yac.pure _
 ·exact yac.pure _
 ·exact yac.bind (zgg hT _ _ _) fun _ => yac.pure _
 ·exact yac.bind (zfz hT _) fun _ => yac.pure _
def okT : Target → Bool
 |.builtin b _ _ _ => okB b
 |.coroexit _ => false
 |_ => true
theorem zcx {Z : Nat → Prop} (T : Twin P Q Z) (t : Target) (ht : okT t = true) (args : Array Value) : yac P Q X (EscZ Z) (invoke t args) := by
 unfold invoke
 split
 ·exact zez T.tables _
 ·exact zau T.tables _ ht _ _ _ _
 ·exact zay T _ _
 ·split
  ·exact zaz T _ _ _
  ·exact yac.halt _
 ·split
  ·refine yac.bind (zgd T.tables _) fun d => ?_
   exact zaz T _ _ _
  ·exact yac.halt _
 ·split
  ·exact yac.bind (zew T.tables _ _ _ _) fun _ => zay T _ _
  ·exact yac.halt _
 ·exact zgl _ _
 ·exact yac.halt _
 ·exact yac.pure _
end Go.Sim

namespace Go.Sim
variable {P Q : Program} {X : Nat → Prop}
def ydf (Q : Program) : Op → Bool
 |.convert src dst _ => !(Q.underlying src matches some .unsafePointer) && !(Q.underlying dst matches some .unsafePointer) && !((Q.underlying dst matches some (.slice _)) && src == dst)
 |.makeChan .. | .send .. | .recv .. | .select .. | .go .. | .defer .. => false
 |.call c => match c.callee with
  |.builtin b => okB b
  |_ => true
 |_ => true
theorem bind_pure' {α : Type} (s : Sem α) : s.bind Sem.pure = s := by
 induction s with
 |pure a => rfl
 |halt h => rfl
 |load m a k ih => exact congrArg (Sem.load m a) (funext ih)
 |store m a v k ih => exact congrArg (Sem.store m a v) ih
 |new o k ih => exact congrArg (Sem.new o) (funext ih)
 |shape r k ih => exact congrArg (Sem.shape r) (funext ih)
 |freeze a n k ih => exact congrArg (Sem.freeze a n) ih
 |frozen a k ih => exact congrArg (Sem.frozen a) (funext ih)
 |getObj r k ih => exact congrArg (Sem.getObj r) (funext ih)
 |setObj r o k ih => exact congrArg (Sem.setObj r o) ih
 |choose q k ih => exact congrArg (Sem.choose q) (funext ih)
 |sys c k ih => exact congrArg (Sem.sys c) (funext ih)
 |program k ih => exact congrArg Sem.program (funext ih)
 |mark m k ih => exact congrArg (Sem.mark m) ih
theorem yro {α β γ : Type} (s : Sem α) (f : α → Sem β) (g : β → Sem γ) : (s.bind f).bind g = s.bind fun a => (f a).bind g := by
 induction s with
 |pure a => rfl
 |halt h => rfl
 |load m a k ih => exact congrArg (Sem.load m a) (funext ih)
 |store m a v k ih => exact congrArg (Sem.store m a v) ih
 |new o k ih => exact congrArg (Sem.new o) (funext ih)
 |shape r k ih => exact congrArg (Sem.shape r) (funext ih)
 |freeze a n k ih => exact congrArg (Sem.freeze a n) ih
 |frozen a k ih => exact congrArg (Sem.frozen a) (funext ih)
 |getObj r k ih => exact congrArg (Sem.getObj r) (funext ih)
 |setObj r o k ih => exact congrArg (Sem.setObj r o) ih
 |choose q k ih => exact congrArg (Sem.choose q) (funext ih)
 |sys c k ih => exact congrArg (Sem.sys c) (funext ih)
 |program k ih => exact congrArg Sem.program (funext ih)
 |mark m k ih => exact congrArg (Sem.mark m) ih
theorem lawful : LawfulMonad Sem := LawfulMonad.mk' Sem (fun x => bind_pure' x) (fun _ _ => rfl) (fun x f g => yro x f g)
theorem zdo {α β : Type} {Esc : Array β → Prop} {f : α → Sem β} (hf : ∀ a, Sim P Q X (f a)) (l : Array α) : yac P Q X Esc (l.mapM f) := by
 haveI := lawful
 rw [Array.mapM_eq_mapM_toList]
 exact yac.bind (zdp hf _) fun _ => yac.pure _
theorem zas {Esc : Value → Prop} (hT : P.toTables = Q.toTables) (t : TypeId) (x : Array (Nat × Value)) : yac P Q X Esc (Instr.build t x) := by
 unfold Instr.build
 refine yac.bind (zgm hT _) fun z => ?_
 dsimp only
 refine yac.bind (zgd hT _) fun d => ?_
 split
 ·refine yac.bind (zdo (fun f => yac.bind (zfi hT _) fun _ => yac.pure _) _) fun ps => ?_
  (repeat' first
  |exact yac.pure _
  |exact yac.halt _
  |with_reducible first | assumption | apply zgd | apply zgm | apply zfi
  |refine yac.bind ?_ (fun _ => ?_)
  |split
  |dsimp only)
 ·(repeat' first
  |exact yac.pure _
  |exact yac.halt _
  |with_reducible first | assumption | apply zgd | apply zgm | apply zfi
  |refine yac.bind ?_ (fun _ => ?_)
  |split
  |dsimp only)
 ·(repeat' first
  |exact yac.pure _
  |exact yac.halt _
  |with_reducible first | assumption | apply zgd | apply zgm | apply zfi
  |refine yac.bind ?_ (fun _ => ?_)
  |split
  |dsimp only)
theorem zba {Z : Nat → Prop} (T : Twin P Q Z) (ρ : Operand → Value) (c : Call) (t : TypeId) (hc : ydf Q (.call c) = true) : yac P Q X (EscZ Z) (do let d ← resolve ρ c t; invoke d.target d.args) := by
 unfold resolve
 dsimp only
 split
 ·next b e =>
  simp only [ydf, e] at hc
  exact zeq (zcx T (.builtin b _ _ _) hc _)
 ·(refine zeq ?_; refine zcx T _ ?_ _; rfl)
 ·unfold Deferred.ofValue
  split
  ·(refine zeq ?_; refine zcx T _ ?_ _; rfl)
  ·(refine zeq ?_; refine zcx T _ ?_ _; rfl)
  ·exact yac.halt _
end Go.Sim

namespace Go.Sim
variable {P Q : Program} {X : Nat → Prop}
theorem zag {Esc : Value → Prop} (hT : P.toTables = Q.toTables) (t : TypeId) (x : Value) : yac P Q X Esc (Instr.arrayAt t x) := by
 unfold Instr.arrayAt
 (repeat' first
  |exact yac.pure _
  |exact yac.halt _
  |with_reducible first | assumption | apply zgd | apply zez
  |refine yac.bind ?_ (fun _ => ?_)
  |split
  |dsimp only)
theorem zgj {Esc : Value → Prop} (g : Nat) : yac P Q X Esc (Instr.waits g) := zff (fun _ _ _ => rfl) fun x => yac.pure _
theorem zeu {Esc : Unit → Prop} (g : Nat) : yac P Q X Esc (Instr.ready g) := by
 unfold Instr.ready
 refine zff (fun _ _ _ => rfl) fun x => ?_
 split
 ·exact yac.pure _
 ·refine zcs (fun o ho => by cases o <;> first | (cases ho; done) | exact .inl rfl | exact .inr fun v => ⟨_, _, rfl, (by rfl)⟩) fun o => ?_
  split
  ·exact yac.setObj rfl (yac.pure _)
  ·exact yac.halt _
theorem zeh {Esc : Next → Prop} (hT : P.toTables = Q.toTables) (ρ : Operand → Value) (o : Oper) (x : Operand) (ho : o.op = .nilCheck x) : yac P Q X Esc (execOp ρ o) := by
 unfold execOp
 rw [ho]
 dsimp only
 split
 ·exact zez hT _
 ·exact zez hT _
 ·exact zez hT _
 ·split
  ·exact zez hT _
  ·refine zep (by simp only [hT]) ?_
   refine yac.bind (zeg hT _ _ _ _) fun b => ?_
   split
   ·exact yac.halt _
   ·exact yac.pure _
  ·exact yac.pure _
 ·exact yac.pure _
theorem zbx {Esc : Next → Prop} (hT : P.toTables = Q.toTables) (ρ : Operand → Value) (o : Oper) (h : ydf Q o.op = true) (hcall : ∀ c, o.op = .call c → yac P Q X Esc (do let d ← resolve ρ c o.type; invoke d.target d.args)) : yac P Q X Esc (execOp ρ o) := by
 cases ho : o.op
 case nilCheck x => exact zeh hT ρ o x ho
 all_goals (rw [ho] at h)
 all_goals (unfold execOp; rw [ho]; dsimp only)
 case move => exact yac.pure _
 case assign => exact yac.pure _
 case pick => exact yac.bind (zaj _) fun _ => yac.pure _
 case alloc => exact yac.bind (zad hT _ _ _) fun _ => yac.pure _
 case box => exact yac.bind (zar _ _) fun _ => yac.pure _
 case build => exact yac.bind (zas hT _ _) fun _ => yac.pure _
 case buildSlice => exact yac.bind (zat hT _ _ _) fun _ => yac.pure _
 case load => exact yac.bind (zdd hT _ _) fun _ => yac.pure _
 case store => exact yac.bind (zfq hT _ _ _) fun _ => yac.pure _
 case ready => exact yac.bind (zeu _) fun _ => yac.pure _
 case waits => exact yac.bind (zgj _) fun _ => yac.pure _
 case binOp => exact yac.bind (yac.bind (zbs hT _ _ _ _ _ _) fun _ => zap hT _ _ _ _) fun _ => yac.pure _
 case unOp => exact yac.bind (zgb _ _) fun _ => yac.pure _
 case convert src dst x =>
  refine yac.bind (zbj hT _ _ _ ?_ ?_ ?_) fun _ => yac.pure _
  ·intro e; simp [ydf, e] at h
  ·intro e; simp [ydf, e] at h
  ·intro e he hh; simp [ydf, he, hh] at h
 case sliceToArrayPointer => exact yac.bind (zag hT _ _) fun _ => yac.pure _
 case makeInterface => exact yac.bind (zdk hT _ _) fun _ => yac.pure _
 case makeFunc => exact yac.bind (zdj _ _ _) fun _ => yac.pure _
 case makeMap => exact yac.bind (zdl hT _ _) fun _ => yac.pure _
 case makeSlice => exact yac.bind (zdm hT _ _ _) fun _ => yac.pure _
 case slice => exact yac.bind (zfk hT _ _ _ _ _) fun _ => yac.pure _
 case fieldAddr => exact yac.bind (zca hT _ _ _) fun _ => yac.pure _
 case field => exact yac.bind (zbz hT _ _ _) fun _ => yac.pure _
 case indexAddr => exact yac.bind (zcu hT _ _ _) fun _ => yac.pure _
 case index => exact yac.bind (zct hT _ _ _) fun _ => yac.pure _
 case lookup => exact yac.bind (zdi hT _ _ _ _) fun _ => yac.pure _
 case mapUpdate => exact yac.bind (zdq hT _ _ _ _) fun _ => yac.pure _
 case insert => exact yac.bind (zdq hT _ _ _ _) fun _ => yac.pure _
 case mapEntry => exact yac.bind (zdn hT _ _ _) fun _ => yac.pure _
 case entryStore => exact yac.bind (zbr _ _ _ _) fun _ => yac.pure _
 case range => exact yac.bind (zet hT _ _) fun _ => yac.pure _
 case next => exact yac.bind (zef hT _ _ _) fun _ => yac.pure _
 case entry => exact yac.bind (zbq _) fun _ => yac.pure _
 case typeAssert => exact yac.bind (zfy hT _ _ _ _) fun _ => yac.pure _
 case extract => exact yac.bind (zby _ _) fun _ => yac.pure _
 case call c => exact hcall c ho
 case panic => exact yac.bind (zek hT _) fun _ => yac.pure _
 all_goals (simp [ydf] at h)
theorem zbw {Z : Nat → Prop} (T : Twin P Q Z) (ρ : Operand → Value) (o : Oper) (h : ydf Q o.op = true) : yac P Q X (EscZ Z) (execOp ρ o) :=
 zbx T.tables ρ o h fun c hc => zba T _ _ _ (by rw [hc] at h; exact h)
end Go.Sim

namespace Go.Sim
variable {P Q : Program} {X : Nat → Prop}
def Tame (v : World) : Prop := ∀ (b : Nat) o, v.heap[b]? = some o → ¬ Wild o
theorem Rel.tame {L : Lim} {w v : World} (h : Rel X L w v) : Tame v := fun _ _ e => h.nov e
def ybe (Q : Program) {α : Type} (φ : α → Prop) (s : Sem α) : Prop := ∀ v a v', s.run Q v = .ok a v' → φ a
theorem ybe.pure {α : Type} {φ : α → Prop} {a : α} (h : φ a) : ybe Q φ (Sem.pure a) := fun v b v' e => by
 simp only [Sem.run, Result.ok.injEq] at e
 exact e.1 ▸ h
theorem ybe.halt {α : Type} {φ : α → Prop} (x : Halt) : ybe Q φ (Sem.halt x : Sem α) := fun v b v' e => by simp [Sem.run] at e
theorem ybe.bind {α β : Type} {φ : β → Prop} {s : Sem α} {f : α → Sem β} (h : ∀ a, ybe Q φ (f a)) : ybe Q φ (s.bind f) := fun v b v' e => by
 rw [run_bind] at e
 split at e
 ·exact h _ _ _ _ e
 ·cases e
def okN : Next → Prop
 |.value _ | .skip | .enter _ _ | .recover => True
 |_ => False
def bodied (Q : Program) : Prop := ∀ (f : Nat) fn, Q.funcs[f]? = some fn → fn.body.isNone = false ∧ (fn.name == "runtime.NumGoroutine") = false
theorem yiu {s : Sem Value} : ybe Q okN (do pure (.value (← s))) := ybe.bind fun _ => ybe.pure trivial
theorem ypm {s : Sem Unit} : ybe Q okN (do s; pure .skip) := ybe.bind fun _ => ybe.pure trivial
theorem yfs (hb : bodied Q) (f : Nat) (args : Array Value) : ybe Q okN (callFunc f args) := by
 intro v a v' e
 change (Sem.program fun p => match p.funcs[f]? with
  |none => stuck "call: no such function"
  |some fn => _).run Q v = _ at e
 simp only [Sem.run] at e
 cases hq : Q.funcs[f]? with
 |none => rw [hq] at e; cases e
 |some fn =>
  obtain ⟨h1, h2⟩ := hb f fn hq
  rw [hq] at e
  dsimp only at e
  rw [h1, h2] at e
  cases e
  trivial
theorem yar {α : Type} {φ : α → Prop} (e : RuntimeError) : ybe Q φ (runtimePanic e : Sem α) := by
 unfold runtimePanic
 refine ybe.bind fun _ => ?_
 dsimp only
 split <;> first | exact ybe.halt _ | exact ybe.bind fun _ => ybe.bind fun _ => ybe.halt _
theorem ygj (hb : bodied Q) (r : Value) (n : String) (args : Array Value) : ybe Q okN (callMethod r n args) := by
 unfold callMethod
 split
 ·exact ybe.bind fun _ => ybe.bind fun x => yfs hb _ _
 ·exact yar _
 ·exact ybe.halt _
theorem yjk (b : Builtin) (h : okB b = true) (ts : Array TypeId) (t : TypeId) (cs : Array Bool) (x : Array Value) : ybe Q okN (builtin b ts t cs x) := by
 cases b <;> first | (cases h; done) | skip
 all_goals unfold builtin
 all_goals first | exact yiu | exact ybe.halt _ | exact ybe.pure (φ := okN) trivial | exact ybe.bind fun _ => ybe.pure trivial
theorem ynp {v : World} (h : Tame v) (l : Nat) (x : Array Value) (a : Next) (v' : World) : (Instr.yield l x).run Q v ≠ .ok a v' := by
 intro e
 unfold Instr.yield at e
 change ((Instr.getLoop l).bind _).run Q v = _ at e
 rw [run_bind] at e
 have : ∃ y u, (Instr.getLoop l).run Q v = .halt y u := by
  unfold Instr.getLoop
  change ∃ y u, (Sem.getObj l fun o => _).run Q v = _
  simp only [Sem.run]
  cases hl : v.heap[l]? with
  |none => exact ⟨_, _, rfl⟩
  |some o =>
   have := h l o hl
   cases o with
   |loop r => exact absurd (.inr (.inl ⟨_, rfl⟩)) this
   |_ => exact ⟨_, _, rfl⟩
 obtain ⟨y, u, hh⟩ := this
 rw [hh] at e
 cases e
theorem yft (hb : bodied Q) {v : World} (h : Tame v) (t : Target) (ht : okT t = true) (args : Array Value) (a : Next) (v' : World) (e : (invoke t args).run Q v = .ok a v') : okN a := by
 unfold invoke at e
 split at e
 ·exact yar _ _ _ _ e
 ·exact yjk _ ht _ _ _ _ _ _ _ e
 ·exact yfs hb _ _ _ _ _ e
 ·split at e
  ·exact ygj hb _ _ _ _ _ _ e
  ·exact ybe.halt _ _ _ _ e
 ·split at e
  ·exact ybe.bind (fun d => ygj hb _ _ _) _ _ _ e
  ·exact ybe.halt _ _ _ _ e
 ·split at e
  ·exact ybe.bind (fun d => yfs hb _ _) _ _ _ e
  ·exact ybe.halt _ _ _ _ e
 ·exact absurd e (ynp h _ _ _ _)
 ·exact ybe.halt _ _ _ _ e
 ·cases ht
theorem pb {d : Deferred} {v v' : World} {a : Next} (e : ((pure d : Sem Deferred) >>= fun d => invoke d.target d.args).run Q v = .ok a v') : (invoke d.target d.args).run Q v = .ok a v' := e
theorem yru (hb : bodied Q) {v : World} (h : Tame v) (ρ : Operand → Value) (o : Oper) (ho : ydf Q o.op = true) (a : Next) (v' : World) (e : (execOp ρ o).run Q v = .ok a v') : okN a := by
 unfold execOp at e
 dsimp only at e
 split at e
 all_goals first | exact yiu _ _ _ e | exact ypm _ _ _ e | exact ybe.bind (fun _ => ybe.pure trivial) _ _ _ e | exact ybe.pure trivial _ _ _ e | (rename_i hop; rw [hop] at ho; cases ho; done) | skip
 ·split at e
  all_goals first | exact yar _ _ _ _ e | exact ybe.pure trivial _ _ _ e | skip
  split at e
  all_goals first | exact yar _ _ _ _ e | exact ybe.pure trivial _ _ _ e | skip
  exact ybe.bind (fun _ => ybe.bind fun _ => by split <;> first | exact ybe.bind (fun _ => ybe.pure trivial) | exact ybe.pure trivial) _ _ _ e
 ·next c hop =>
  rw [hop] at ho
  revert e
  unfold resolve
  dsimp only
  split
  ·next b eb =>
   simp only [ydf, eb] at ho
   exact fun e => yft hb h (.builtin b _ _ _) ho _ _ _ (pb e)
  ·exact fun e => yft hb h _ (by rfl) _ _ _ (pb e)
  ·unfold Deferred.ofValue
   split
   ·exact fun e => yft hb h _ (by rfl) _ _ _ (pb e)
   ·exact fun e => yft hb h _ (by rfl) _ _ _ (pb e)
   ·exact fun e => ybe.halt _ _ _ _ e
end Go.Sim

namespace Go.Sim
variable {P Q : Program} {X : Nat → Prop} {ok : Op → Bool}
theorem zex {Esc : Value → Prop} (hT : P.toTables = Q.toTables) (fn : Func) (tmps : Array Value) : yac P Q X Esc (results fn tmps) := by
 unfold results
 refine yac.bind (zdo (fun r => ?_) _) fun vs => yac.pure _
 cases r with
 |tmp t => exact yac.pure _
 |cell a t => exact yac.bind (zah hT _) fun _ => zdh hT _ _
def ych (ok : Op → Bool) : Code → Bool
 |.region _ ops _ => ops.all fun o => ok o.op
 |.seq a b | .cond _ a b => ych ok a && ych ok b
 |.block _ b | .loop b | .scope b => ych ok b
 |.rangeFunc .. => false
 |_ => true
def yjn (ok : Op → Bool) : Item → Bool
 |.code c | .inLoop c | .inScope c => ych ok c
 |.inRegion ops _ => ops.all fun o => ok o.op
 |.inBlock _ => true
 |_ => false
def ycb (ok : Op → Bool) (l : List Item) : Bool := l.all (yjn ok)
structure yjs (Q : Program) (ok : Op → Bool) (E : Nat → Prop) (fr : Frame) : Prop where
 items : ycb ok fr.todo = true
 defers : fr.defers = []
 kind : fr.kind = .normal
 round : fr.roundOf = none
 fn : ¬ E fr.fn
 inn : fr.fn < Q.funcs.size
def gor (fr : Frame) (cs : List Frame) : Goroutine := { frame := fr, callers := cs, status := .running, dying := none }
theorem ylf {id : Nat} : ∀ {k k' : List Item}, ycb ok k = true → exitTo id k = some k' → ycb ok k' = true
 |[], _, _, h => by simp [exitTo] at h
 |i :: k, k', ho, h => by
  simp only [ycb, List.all_cons, Bool.and_eq_true] at ho
  have hk : ycb ok k = true := ho.2
  cases i <;> simp only [exitTo] at h <;> first | exact ylf hk h | skip
  split at h
  ·cases h; exact hk
  ·exact ylf hk h
theorem ygp {l : Nat} : ∀ {c c' : Code}, ych ok c = true → findLabel c l = some c' → ych ok c' = true
 |.seq a b, c', ho, h => by
  simp only [ych, Bool.and_eq_true] at ho
  simp only [findLabel] at h
  split at h
  ·next r e =>
   cases h
   simp only [ych, Bool.and_eq_true]
   exact ⟨ygp ho.1 e, ho.2⟩
  ·exact ygp ho.2 h
 |.label l', c', ho, h => by
  simp only [findLabel] at h
  split at h
  ·cases h; rfl
  ·cases h
 |.skip, _, _, h | .region .., _, _, h | .cond .., _, _, h | .block .., _, _, h | .loop _, _, _, h | .rangeFunc .., _, _, h | .exit _, _, _, h | .scope _, _, _, h | .goto _, _, _, h | .ret, _, _, h | .refuse _, _, _, h => by simp [findLabel] at h
theorem ylh {l : Nat} : ∀ {k k' : List Item}, ycb ok k = true → gotoIn l k = some k' → ycb ok k' = true
 |[], _, _, h => by simp [gotoIn] at h
 |i :: k, k', ho, h => by
  have ho' := ho
  simp only [ycb, List.all_cons, Bool.and_eq_true] at ho
  have hk : ycb ok k = true := ho.2
  cases i <;> simp only [gotoIn] at h <;> first | exact ylh hk h | skip
  split at h
  ·next r e =>
   cases h
   simp only [ycb, List.all_cons, Bool.and_eq_true]
   exact ⟨ygp ho.1 e, ho.1, hk⟩
  ·exact ylh hk h
theorem ylg {E : Nat → Prop} {fr : Frame} (h : yjs Q ok E fr) (v : Value) : yjs Q ok E (fr.finish v) := by
 obtain ⟨h1, h2, h3, h4, h5, h6⟩ := h
 unfold Frame.finish
 split
 ·next ops i rest k e =>
  rw [e] at h1
  exact ⟨h1, h2, h3, h4, h5, h6⟩
 all_goals first | (next e => rw [e] at h1; simp [ycb, yjn] at h1; done) | (next e => exact ⟨h1, h2, h3, h4, h5, h6⟩)
theorem yho (fr : Frame) (v : Value) : (fr.finish v).mode = fr.mode := by
 unfold Frame.finish
 repeat' split
 all_goals rfl
theorem mem_seen (p : Program) (fn : FuncId) (es : Array Event) (e : Event) (h : e ∈ seen p fn es) : e ∈ es := by
 unfold seen at h
 dsimp only at h
 rw [← Array.foldl_toList] at h
 have key : ∀ (l : List Event) (q : Bool) (kept : Array Event), e ∈ (l.foldl (fun (x : Bool × Array Event) (e : Event) => match e.loc with
   |.mark (.extern f) => ((p.funcs[f]?).any (·.norace), x.2)
   |_ => (x.1, if x.1 && !e.sync then x.2 else x.2.push e)) (q, kept)).2 → e ∈ kept ∨ e ∈ l := by
  intro l
  induction l with
  |nil => exact fun q kept h => .inl h
  |cons x l ih =>
   intro q kept h
   rw [List.foldl_cons] at h
   split at h
   ·rcases ih _ _ h with q | q
    ·exact .inl q
    ·exact .inr (List.mem_cons_of_mem _ q)
   ·rcases ih _ _ h with q | q
    ·split at q
     ·exact .inl q
     ·rcases Array.mem_push.1 q with q | q
      ·exact .inl q
      ·exact .inr (q ▸ List.mem_cons_self ..)
    ·exact .inr (List.mem_cons_of_mem _ q)
 rcases key es.toList _ _ h with q | q
 ·simp at q
 ·exact Array.mem_toList_iff.1 q
theorem yfw {α : Type} (P : Program) (s : Sem α) : ∀ (w : World) (es : Array Event), (s.runT P w es).1 = s.run P w := by
 induction s with
 |pure a => exact fun _ _ => rfl
 |halt h => exact fun _ _ => rfl
 |load m a k ih =>
  intro w es
  simp only [Sem.run, Sem.runT]
  cases w.cell? a with
  |some v => exact ih _ _ _
  |none =>
   dsimp only
   cases w.farLoad P a (m == .atomic) with
   |ok r => exact ih _ _ _
   |error e => rfl
 |store m a v k ih =>
  intro w es
  have key : (match w.cell? a with
   |some _ =>
    if w.frozen? a then (.halt (.unsupported (.unsafePointer "a write to bytes that a string shares")) w, es)
    else k.runT P (w.setCell a v) (es.push ⟨.cell a, true, m == .atomic⟩)
   |none => match w.farStore P a v (m == .atomic) with
    |.ok (w, touched) => k.runT P w (es ++ touched.toArray.map (⟨.cell ·, true, m == .atomic⟩))
    |.error h => (.halt h w, es) : Result _ × Array Event).1 = (match w.cell? a with
   |some _ => if w.frozen? a then .halt (.unsupported (.unsafePointer "a write to bytes that a string shares")) w else k.run P (w.setCell a v)
   |none => match w.farStore P a v (m == .atomic) with
    |.ok (w, _) => k.run P w
    |.error h => .halt h w : Result _) := by
   cases w.cell? a with
   |some v =>
    dsimp only
    split
    ·rfl
    ·exact ih _ _
   |none =>
    dsimp only
    cases w.farStore P a v (m == .atomic) with
    |ok r => exact ih _ _
    |error e => rfl
  cases v <;> first | rfl | exact key
 |new o k ih => exact fun _ _ => ih _ _ _
 |shape r k ih => exact fun _ _ => ih _ _ _
 |freeze a n k ih => exact fun _ _ => ih _ _
 |frozen a k ih => exact fun _ _ => ih _ _ _
 |getObj r k ih =>
  intro w es
  simp only [Sem.run, Sem.runT]
  cases w.heap[r]? with
  |none => rfl
  |some o => cases o <;> first | rfl | exact ih _ _ _
 |setObj r o k ih =>
  intro w es
  simp only [Sem.run, Sem.runT]
  cases w.heap[r]? with
  |none => rfl
  |some x => cases x <;> first | rfl | exact ih _ _
 |choose q k ih =>
  intro w es
  simp only [Sem.run, Sem.runT]
  split <;> exact ih _ _ _
 |sys c k ih => exact fun _ _ => ih _ _ _
 |program k ih => exact fun _ _ => ih _ _ _
 |mark m k ih => exact fun _ _ => ih _ _
end Go.Sim

namespace Go.Sim
variable {P Q : Program} {X : Nat → Prop} {ok : Op → Bool}
def OkCs (Q : Program) (ok : Op → Bool) (E : Nat → Prop) (cs : List Frame) : Prop := ∀ c ∈ cs, yjs Q ok E c ∧ c.mode = .run
def yri (P Q : Program) (ok : Op → Bool) (Rr X Z D E : Nat → Prop) (m : Bool) (L : Lim) (fr : Frame) (inner sP sQ : List Frame) (w : World) (g' : Goroutine) (v' : World) : Prop :=
 (∃ f args, Rr f ∧ Z f ∧ g' = gor (Frame.enter Q f args .normal) (fr :: (inner ++ sQ))) ∨
 (∃ w' es', Rel X L w' v' ∧ ycs X w w' ∧ (∀ e ∈ es', yjj X w'.heap.size e) ∧
  ((∃ fr' inner', yjs Q ok E fr' ∧ (fr'.mode = .run ∨ fr'.mode = .returning) ∧ OkCs Q ok E inner' ∧ g' = gor fr' (inner' ++ sQ) ∧ stepG P m (gor fr (inner ++ sP)) w = .go (gor fr' (inner' ++ sP)) w' es') ∨
   (∃ f args, Rr f ∧ D f ∧ ¬ Z f ∧ g' = gor (Frame.enter Q f args .normal) (fr :: (inner ++ sQ)) ∧ stepG P m (gor fr (inner ++ sP)) w = .go (gor (Frame.enter P f args .normal) (fr :: (inner ++ sP))) w' es'))) ∨
 (∃ fr' ch, fr'.mode = .panicking ch ∧ fr'.defers = [] ∧ g' = gor fr' (inner ++ sQ))
section
variable {Rr Z D E : Nat → Prop} {m : Bool} {L : Lim} {fr fr' : Frame} {inner sP sQ : List Frame} {w v v' : World} {g' : Goroutine} {es : Array Event}
theorem alike_move (hR : Rel X L w v) (hc : OkCs Q ok E inner) (hf : yjs Q ok E fr') (hm : fr'.mode = .run ∨ fr'.mode = .returning)
  (hQ : stepG Q true (gor fr (inner ++ sQ)) v = .go (gor fr' (inner ++ sQ)) v #[]) (hP : stepG P m (gor fr (inner ++ sP)) w = .go (gor fr' (inner ++ sP)) w #[])
  (h : stepG Q true (gor fr (inner ++ sQ)) v = .go g' v' es) : yri P Q ok Rr X Z D E m L fr inner sP sQ w g' v' := by
 rw [hQ] at h
 cases h
 exact .inr (.inl ⟨w, #[], hR, .refl X w, by simp, .inl ⟨fr', inner, hf, hm, hc, rfl, hP⟩⟩)
theorem ok_todo {fr : Frame} {k : List Item} (h : yjs Q ok E fr) (hk : ycb ok k = true) : yjs Q ok E { fr with todo := k } := ⟨hk, h.defers, h.kind, h.round, h.fn, h.inn⟩
theorem ykf {f : Nat} {args : Array Value} {fn : Func} (hok : ∀ (f : Nat) fn c, Rr f → ¬ D f → Q.funcs[f]? = some fn → fn.body = some c → ych ok c = true) (hE : ∀ f, E f → D f) (hr : Rr f) (hf : ¬ D f) (hq : Q.funcs[f]? = some fn) : yjs Q ok E (Frame.enter Q f args .normal) := by
 refine ⟨?_, rfl, rfl, rfl, fun h => hf (hE f h), (Array.getElem?_eq_some_iff.1 hq).1⟩
 simp only [Frame.enter, hq, Option.bind_some, ycb, List.all_cons, List.all_nil, Bool.and_true, yjn]
 cases hb : fn.body with
 |none => rfl
 |some c => exact hok f fn c hr hf hq hb
theorem ygu {f : Nat} {args : Array Value} (h : P.funcs[f]? = Q.funcs[f]?) : Frame.enter P f args .normal = Frame.enter Q f args .normal := by
 unfold Frame.enter
 rw [h]
theorem yen (p : Program) (m : Bool) {cs : List Frame} (w : World) (h : fr.mode = .run) : stepG p m (gor fr cs) w = stepG.exec p m true fr cs none w := by
 unfold stepG gor
 dsimp only
 rw [h]
theorem ydv (p : Program) (m : Bool) {cs : List Frame} (w : World) (h : fr.mode = .returning) : stepG p m (gor fr cs) w = unwind p m fr cs none w := by
 unfold stepG gor
 dsimp only
 rw [h]
end
end Go.Sim

namespace Go.Sim
variable {P Q : Program} {X : Nat → Prop} {ok : Op → Bool}
section
variable {p : Program} {fr : Frame} {cs : List Frame} {s : Sem Next} {w w1 : World} {es : Array Event} {x : Value}
theorem ycz (hk : fr.kind = .normal) (e : s.runT p w #[] = (.ok (.value x) w1, es)) : stepG.apply p true fr cs none s w = .go (gor (fr.finish x) cs) w1 (seen p fr.fn es) := by
 unfold stepG.apply
 simp [e, hk, GStep.after, gor]
theorem yfa (hk : fr.kind = .normal) (e : s.runT p w #[] = (.ok .skip w1, es)) : stepG.apply p true fr cs none s w = .go (gor (fr.finish undef) cs) w1 (seen p fr.fn es) := by
 unfold stepG.apply
 simp [e, hk, GStep.after, gor]
theorem ykq {f : Nat} {args : Array Value} {ops : Array Oper} {l : List Nat} {k : List Item} (ht : fr.todo = .inRegion ops l :: k) (hk : fr.kind = .normal) (e : s.runT p w #[] = (.ok (.enter f args) w1, es)) : stepG.apply p true fr cs none s w = .go (gor (Frame.enter p f args .normal) (fr :: cs)) w1 (seen p fr.fn es) := by
 unfold stepG.apply
 simp [e, hk, ht, GStep.after, gor]
theorem yhy (hk : fr.kind = .normal) (hr : fr.roundOf = none) (e : s.runT p w #[] = (.ok .recover w1, es)) : stepG.apply p true fr cs none s w = .go (gor (fr.finish .nilIface) cs) w1 (seen p fr.fn es) := by
 have : tryRecover fr cs = none := by unfold tryRecover; rw [hk]
 unfold stepG.apply
 simp [e, hk, hr, this, GStep.after, gor]
theorem yks (hk : fr.kind = .normal) (e : s.runT p w #[] = (.halt (.panic x) w1, es)) : stepG.apply p true fr cs none s w = .go (gor (fr.raise [{ v := x, recovered := false }]) cs) w1 (seen p fr.fn es) := by
 unfold stepG.apply
 simp [e, hk, GStep.after, gor]
theorem yis {y : Halt} (hy : yhm y = true) (e : s.runT p w #[] = (.halt y w1, es)) : ∃ o u l, stepG.apply p true fr cs none s w = .ended o u l := by
 unfold stepG.apply
 cases y with
 |unsupported u =>
  cases u <;> first | (cases hy; done) | exact ⟨_, _, _, by simp only [e, if_true]; rfl⟩
 |stuck m => exact ⟨_, _, _, by simp only [e, if_true]; rfl⟩
 |_ => cases hy
theorem ykv {p : Program} {fr : Frame} {cs : List Frame} {d : Option Dying} {g : Nat} {w w' : World} {g' : Goroutine} {es : Array Event} (h : early p fr cs d g w = .go g' w' es) : w.drawn ≤ w'.drawn := by
 unfold early at h
 dsimp only at h
 repeat' split at h
 all_goals first | (cases h; done) | (cases h; exact Nat.le_refl _) | skip
 all_goals
  have hd := yff p (choose (.early g)) w
  have hx := ‹Sem.run p (choose (Question.early g)) w = Result.ok _ _›
  rw [hx] at hd
  cases h
  exact hd
theorem yjz {l es : Array Event} {x : GStep} {g : Goroutine} {w : World} (h : GStep.after l x = .go g w es) : ∃ es', x = .go g w es' := by
 cases x <;> simp [GStep.after] at h
 exact ⟨_, by rw [h.1, h.2.1]⟩
theorem run_wd {α : Type} {p : Program} {s : Sem α} {w w' : World} {a : α} (e : s.run p w = .ok a w') : w.drawn ≤ w'.drawn := by
 have := yff p s w
 rw [e] at this
 exact this
theorem ykw {p : Program} {fr : Frame} {cs : List Frame} {d : Option Dying} {mm : String} {w w' : World} {g' : Goroutine} {es : Array Event} (h : endFatal p fr cs d mm w = .go g' w' es) : w.drawn ≤ w'.drawn := by
 unfold endFatal at h
 dsimp only at h
 split at h
 ·next e =>
  unfold dieOf at h
  cases h
  exact run_wd e
 ·cases h
 ·cases h
theorem ykr {p : Program} {fr : Frame} {cs : List Frame} {s : Sem Next} {w w1 w' : World} {es es' : Array Event} {y : Halt} {g' : Goroutine} (e : s.runT p w #[] = (.halt y w1, es)) (h : stepG.apply p true fr cs none s w = .go g' w' es') : w1.drawn ≤ w'.drawn := by
 unfold stepG.apply at h
 simp only [e, if_true] at h
 obtain ⟨l, h⟩ := yjz h
 cases y with
 |unsupported u =>
  cases u <;> first | (cases h; done) | exact ykv h
 |fatal mm => exact ykw h
 |throw mm => unfold endThrow dieOf at h; cases h; exact Nat.le_refl _
 |exit c => cases h
 |stuck c => cases h
 |_ => cases h; exact Nat.le_refl _
end
section
variable {Rr Z D E : Nat → Prop} {m : Bool} {L : Lim} {fr : Frame} {inner sP sQ : List Frame} {w v v' : World} {g' : Goroutine} {es : Array Event}
theorem yfd {n fn : Nat} {es : Array Event} (h : ∀ e ∈ es, yjj X n e) : ∀ e ∈ seen P fn es, yjj X n e := fun e he => h e (mem_seen P fn es e he)
theorem yrj (hEs : ∀ f, E f → D f) (hD : ∀ f, Rr f → ¬ D f → P.funcs[f]? = Q.funcs[f]?)
  (hok : ∀ (f : Nat) fn c, Rr f → ¬ D f → Q.funcs[f]? = some fn → fn.body = some c → ych ok c = true)
  {s : Sem Next} {ops : Array Oper} {l : List Nat} {k : List Item} (ht : fr.todo = .inRegion ops l :: k) (hf : yjs Q ok E fr) (hm : fr.mode = .run) (hc : OkCs Q ok E inner)
  (hs : yac P Q X (EscZ Z) s) (hn : ∀ a v', s.run Q v = .ok a v' → okN a) (hE : ∀ f args v', s.run Q v = .ok (.enter f args) v' → Rr f ∧ ∃ fn, Q.funcs[f]? = some fn) (hR : Rel X L w v)
  (hQ : stepG Q true (gor fr (inner ++ sQ)) v = stepG.apply Q true fr (inner ++ sQ) none s v) (hP : stepG P m (gor fr (inner ++ sP)) w = stepG.apply P true fr (inner ++ sP) none s w)
  (h : stepG Q true (gor fr (inner ++ sQ)) v = .go g' v' es) (hL : v'.drawn ≤ L.lim) : yri P Q ok Rr X Z D E m L fr inner sP sQ w g' v' := by
 rw [hQ] at h
 have hq := yfw Q s v #[]
 have hp := hs L w v #[] hR
 generalize eQ : s.runT Q v #[] = rQ at hq
 obtain ⟨r, esQ⟩ := rQ
 dsimp only at hq
 rw [← hq] at hp hn hE
 have fin : ∀ x w1 es', Rel X L w1 v' → ycs X w w1 → (∀ e ∈ es', yjj X w1.heap.size e) → g' = gor (fr.finish x) (inner ++ sQ) → stepG P m (gor fr (inner ++ sP)) w = .go (gor (fr.finish x) (inner ++ sP)) w1 (seen P fr.fn es') → yri P Q ok Rr X Z D E m L fr inner sP sQ w g' v' :=
  fun x w1 es' h1 h2 h3 h4 h5 => .inr (.inl ⟨w1, _, h1, h2, yfd h3, .inl ⟨fr.finish x, inner, ylg hf x, .inl ((yho fr x).trans hm), hc, h4, h5⟩⟩)
 cases r with
 |ok a v1 =>
  have ha := hn a v1 rfl
  cases a with
  |value x =>
   rw [ycz hf.kind eQ] at h
   cases h
   rcases hp hL with q | ⟨w1, new, e, hR1, hz, hfn⟩
   ·cases q
   ·rw [Array.empty_append] at e
    exact fin x w1 new hR1 hz hfn rfl (hP.trans (ycz hf.kind e))
  |skip =>
   rw [yfa hf.kind eQ] at h
   cases h
   rcases hp hL with q | ⟨w1, new, e, hR1, hz, hfn⟩
   ·cases q
   ·rw [Array.empty_append] at e
    exact fin undef w1 new hR1 hz hfn rfl (hP.trans (yfa hf.kind e))
  |recover =>
   rw [yhy hf.kind hf.round eQ] at h
   cases h
   rcases hp hL with q | ⟨w1, new, e, hR1, hz, hfn⟩
   ·cases q
   ·rw [Array.empty_append] at e
    exact fin .nilIface w1 new hR1 hz hfn rfl (hP.trans (yhy hf.kind hf.round e))
  |enter f args =>
   rw [ykq ht hf.kind eQ] at h
   cases h
   obtain ⟨hrr, fn, hfq⟩ := hE f args v' rfl
   by_cases hz : Z f
   ·exact .inl ⟨f, args, hrr, hz, rfl⟩
   rcases hp hL with q | ⟨w1, new, e, hR1, hz', hfn⟩
   ·exact absurd q hz
   ·rw [Array.empty_append] at e
    have hP' := hP.trans (ykq ht hf.kind e)
    refine .inr (.inl ⟨w1, seen P fr.fn new, hR1, hz', yfd hfn, ?_⟩)
    by_cases hd : D f
    ·exact .inr ⟨f, args, hrr, hd, hz, rfl, hP'⟩
    ·refine .inl ⟨Frame.enter Q f args .normal, fr :: inner, ykf hok hEs hrr hd hfq, .inl rfl, ?_, rfl, ?_⟩
     ·intro c hcm
      rcases List.mem_cons.1 hcm with rfl | hcm
      ·exact ⟨hf, hm⟩
      ·exact hc c hcm
     ·rw [ygu (hD f hrr hd)] at hP'
      exact hP'
  |_ => exact ha.elim
 |halt y v1 =>
  cases y with
  |panic x =>
   rw [yks hf.kind eQ] at h
   cases h
   refine .inr (.inr ⟨fr.raise [{ v := x, recovered := false }], [{ v := x, recovered := false }], ?_, ?_, rfl⟩)
   ·show (fr.raise _).mode = _
    unfold Frame.raise
    rw [hm]
   ·show (fr.raise _).defers = _
    unfold Frame.raise
    rw [hm]
    exact hf.defers
  |_ =>
   have hk := (hp (Nat.le_trans (ykr eQ h) hL)).1
   obtain ⟨o, u, l, e⟩ := yis (fr := fr) (cs := inner ++ sQ) (by exact hk) eQ
   rw [e] at h
   cases h
def yji (Q : Program) : Next → Prop
 |.enter f _ => ∃ fn, Q.funcs[f]? = some fn
 |_ => True
theorem yjl {s : Sem Value} : ybe Q (yji Q) (do pure (.value (← s))) := ybe.bind fun _ => ybe.pure trivial
theorem yrs {s : Sem Unit} : ybe Q (yji Q) (do s; pure .skip) := ybe.bind fun _ => ybe.pure trivial
theorem yek (hb : bodied Q) (f : Nat) (args : Array Value) : ybe Q (yji Q) (callFunc f args) := by
 intro v a v' e
 change (Sem.program fun p => match p.funcs[f]? with
  |none => stuck "call: no such function"
  |some fn => _).run Q v = _ at e
 simp only [Sem.run] at e
 cases hq : Q.funcs[f]? with
 |none => rw [hq] at e; cases e
 |some fn =>
  obtain ⟨h1, h2⟩ := hb f fn hq
  rw [hq] at e
  dsimp only at e
  rw [h1, h2] at e
  cases e
  exact ⟨fn, hq⟩
theorem yfc (hb : bodied Q) (r : Value) (n : String) (args : Array Value) : ybe Q (yji Q) (callMethod r n args) := by
 unfold callMethod
 split
 ·exact ybe.bind fun _ => ybe.bind fun x => yek hb _ _
 ·exact yar _
 ·exact ybe.halt _
theorem ymg (b : Builtin) (h : okB b = true) (ts : Array TypeId) (t : TypeId) (cs : Array Bool) (x : Array Value) : ybe Q (yji Q) (builtin b ts t cs x) := by
 cases b <;> first | (cases h; done) | skip
 all_goals unfold builtin
 all_goals first | exact yjl | exact ybe.halt _ | exact ybe.pure (φ := yji Q) trivial | exact ybe.bind fun _ => ybe.pure trivial
theorem ydz (hb : bodied Q) {v : World} (h : Tame v) (t : Target) (ht : okT t = true) (args : Array Value) (a : Next) (v' : World) (e : (invoke t args).run Q v = .ok a v') : yji Q a := by
 unfold invoke at e
 split at e
 ·exact yar _ _ _ _ e
 ·exact ymg _ ht _ _ _ _ _ _ _ e
 ·exact yek hb _ _ _ _ _ e
 ·split at e
  ·exact yfc hb _ _ _ _ _ _ e
  ·exact ybe.halt _ _ _ _ e
 ·split at e
  ·exact ybe.bind (fun d => yfc hb _ _ _) _ _ _ e
  ·exact ybe.halt _ _ _ _ e
 ·split at e
  ·exact ybe.bind (fun d => yek hb _ _) _ _ _ e
  ·exact ybe.halt _ _ _ _ e
 ·exact absurd e (ynp h _ _ _ _)
 ·exact ybe.halt _ _ _ _ e
 ·cases ht
theorem yib (hb : bodied Q) {v : World} (h : Tame v) (ρ : Operand → Value) (o : Oper) (ho : ydf Q o.op = true) (a : Next) (v' : World) (e : (execOp ρ o).run Q v = .ok a v') : yji Q a := by
 unfold execOp at e
 dsimp only at e
 split at e
 all_goals first | exact yjl _ _ _ e | exact yrs _ _ _ e | exact ybe.bind (fun _ => ybe.pure trivial) _ _ _ e | exact ybe.pure trivial _ _ _ e | (rename_i hop; rw [hop] at ho; cases ho; done) | skip
 ·split at e
  all_goals first | exact yar _ _ _ _ e | exact ybe.pure trivial _ _ _ e | skip
  split at e
  all_goals first | exact yar _ _ _ _ e | exact ybe.pure trivial _ _ _ e | skip
  exact ybe.bind (fun _ => ybe.bind fun _ => by split <;> first | exact ybe.bind (fun _ => ybe.pure trivial) | exact ybe.pure trivial) _ _ _ e
 ·next c hop =>
  rw [hop] at ho
  revert e
  unfold resolve
  dsimp only
  split
  ·next b eb =>
   simp only [ydf, eb] at ho
   exact fun e => ydz hb h (.builtin b _ _ _) ho _ _ _ (pb e)
  ·exact fun e => ydz hb h _ (by rfl) _ _ _ (pb e)
  ·unfold Deferred.ofValue
   split
   ·exact fun e => ydz hb h _ (by rfl) _ _ _ (pb e)
   ·exact fun e => ydz hb h _ (by rfl) _ _ _ (pb e)
   ·exact fun e => ybe.halt _ _ _ _ e
end
end Go.Sim

namespace Go.Sim
variable {P Q : Program} {X : Nat → Prop} {ok : Op → Bool}
structure yjy (P Q : Program) (ok : Op → Bool) (Rr Z D E : Nat → Prop) : Prop where
 tables : P.toTables = Q.toTables
 ops : ∀ (X : Nat → Prop) (fr : Frame) (o : Oper), ok o.op = true → yac P Q X (EscZ Z) (execOp fr.eval o)
 ends : ∀ (fr : Frame) (o : Oper) v a v', ok o.op = true → Tame v → (execOp fr.eval o).run Q v = .ok a v' → okN a
 into : ∀ (fr : Frame) (o : Oper) f args v v', ok o.op = true → Tame v → (execOp fr.eval o).run Q v = .ok (.enter f args) v' → Rr f ∧ ∃ fn, Q.funcs[f]? = some fn
 same : ∀ f, Rr f → ¬ D f → P.funcs[f]? = Q.funcs[f]?
 code : ∀ (f : Nat) fn c, Rr f → ¬ D f → Q.funcs[f]? = some fn → fn.body = some c → ych ok c = true
 sub : ∀ f, Z f → D f
 subE : ∀ f, E f → D f
 res : ∀ (f : Nat) fQ, ¬ E f → Q.funcs[f]? = some fQ → ∃ fP, P.funcs[f]? = some fP ∧ fP.results = fQ.results
theorem ypr {Rr Z D E : Nat → Prop} (T : yjy P Q ok Rr Z D E) (d : Departure) : P.follows d = Q.follows d := by
 have := T.tables
 unfold Tables.follows
 rw [this]
section
variable {Rr Z D E : Nat → Prop} {m : Bool} {L : Lim} {fr : Frame} {inner sP sQ : List Frame} {w v v' : World} {g' : Goroutine} {es : Array Event}
theorem yph (T : yjy P Q ok Rr Z D E) (hf : yjs Q ok E fr) (hm : fr.mode = .returning) (hc : OkCs Q ok E inner) (hne : inner ≠ []) (hR : Rel X L w v)
  (h : stepG Q true (gor fr (inner ++ sQ)) v = .go g' v' es) (hL : v'.drawn ≤ L.lim) : yri P Q ok Rr X Z D E m L fr inner sP sQ w g' v' := by
 obtain ⟨c, rest, rfl⟩ := List.exists_cons_of_ne_nil hne
 have hP : stepG P m (gor fr (c :: rest ++ sP)) w = _ := ydv P m w hm
 rw [ydv Q true v hm] at h
 unfold unwind at h hP
 simp only [hf.defers, hm] at h hP
 cases hq : Q.funcs[fr.fn]? with
 |none => exact absurd (Array.getElem?_eq_none_iff.1 hq) (Nat.not_le.2 hf.inn)
 |some fn =>
  obtain ⟨fP, hfP, hres⟩ := T.res fr.fn fn hf.fn hq
  rw [hq] at h
  rw [hfP] at hP
  have er : results fP fr.tmps = results fn fr.tmps := by unfold results; rw [hres]
  dsimp only at h hP
  rw [er] at hP
  have hs := zex (Esc := fun _ => False) (X := X) T.tables fn fr.tmps L w v #[] hR
  have e1 := yfw Q (results fn fr.tmps) v #[]
  generalize eQ : (results fn fr.tmps).runT Q v #[] = rQ at h e1
  obtain ⟨r, esQ⟩ := rQ
  dsimp only at e1 h
  rw [← e1] at hs
  obtain ⟨l, h⟩ := yjz h
  cases r with
  |ok x v1 =>
   dsimp only at h
   unfold doReturn at h
   simp only [List.cons_append, hf.kind] at h
   cases h
   rcases hs hL with q | ⟨w1, new, e, hR1, hz, hfn⟩
   ·exact q.elim
   ·rw [Array.empty_append] at e
    rw [e] at hP
    dsimp only at hP
    unfold doReturn at hP
    simp only [List.cons_append, hf.kind, GStep.after, Array.append_empty] at hP
    have hcc := hc c (List.mem_cons_self ..)
    exact .inr (.inl ⟨w1, seen P fr.fn new, hR1, hz, yfd hfn, .inl ⟨c.finish x, rest, ylg hcc.1 x, .inl ((yho c x).trans hcc.2), fun a ha => hc a (List.mem_cons_of_mem _ ha), rfl, hP⟩⟩)
  |halt y v1 => cases y <;> cases h
theorem zfo (T : yjy P Q ok Rr Z D E) (hf : yjs Q ok E fr) (hm : fr.mode = .run ∨ fr.mode = .returning) (hc : OkCs Q ok E inner) (hne : fr.mode = .returning → inner ≠ []) (hR : Rel X L w v)
  (h : stepG Q true (gor fr (inner ++ sQ)) v = .go g' v' es) (hL : v'.drawn ≤ L.lim) : yri P Q ok Rr X Z D E m L fr inner sP sQ w g' v' := by
 rcases hm with hm | hm
 case inr => exact yph T hf hm hc (hne hm) hR h hL
 have eQ := yen (fr := fr) (cs := inner ++ sQ) Q true v hm
 have eP := yen (fr := fr) (cs := inner ++ sP) P m w hm
 have hit := hf.items
 have mv : ∀ fr', yjs Q ok E fr' → (fr'.mode = .run ∨ fr'.mode = .returning) → stepG.exec Q true true fr (inner ++ sQ) none v = .go (gor fr' (inner ++ sQ)) v #[] → stepG.exec P m true fr (inner ++ sP) none w = .go (gor fr' (inner ++ sP)) w #[] → yri P Q ok Rr X Z D E m L fr inner sP sQ w g' v' :=
  fun fr' h1 h2 h3 h4 => alike_move hR hc h1 h2 (eQ.trans h3) (eP.trans h4) h
 have to : ∀ k, ycb ok k = true → stepG.exec Q true true fr (inner ++ sQ) none v = .go (gor { fr with todo := k } (inner ++ sQ)) v #[] → stepG.exec P m true fr (inner ++ sP) none w = .go (gor { fr with todo := k } (inner ++ sP)) w #[] → yri P Q ok Rr X Z D E m L fr inner sP sQ w g' v' :=
  fun k h1 h3 h4 => mv _ (ok_todo hf h1) (.inl hm) h3 h4
 have back : yjs Q ok E { fr with mode := .returning } := ⟨hf.items, hf.defers, hf.kind, hf.round, hf.fn, hf.inn⟩
 cases ht : fr.todo with
 |nil =>
  refine mv _ back (.inr rfl) ?_ ?_ <;> (unfold stepG.exec; simp only [ht, hf.round]; rfl)
 |cons it k =>
  rw [ht] at hit
  have hk : ycb ok k = true := by simp only [ycb, List.all_cons, Bool.and_eq_true] at hit; exact hit.2
  have hi : yjn ok it = true := by simp only [ycb, List.all_cons, Bool.and_eq_true] at hit; exact hit.1
  have cons : ∀ i l, yjn ok i = true → ycb ok l = true → ycb ok (i :: l) = true := fun i l h1 h2 => by simp only [ycb, List.all_cons, Bool.and_eq_true]; exact ⟨h1, h2⟩
  cases it with
  |inBlock id => exact to k hk (by unfold stepG.exec; simp only [ht]; rfl) (by unfold stepG.exec; simp only [ht]; rfl)
  |inScope b => exact to k hk (by unfold stepG.exec; simp only [ht]; rfl) (by unfold stepG.exec; simp only [ht]; rfl)
  |inLoop b => exact to (.code b :: .inLoop b :: k) (cons _ _ hi (cons _ _ hi hk)) (by unfold stepG.exec; simp only [ht]; rfl) (by unfold stepG.exec; simp only [ht]; rfl)
  |inRangeFunc l => cases hi
  |endRangeFunc l => cases hi
  |beginRound => cases hi
  |call d a b c => cases hi
  |extern a b => cases hi
  |inRegion ops l =>
   cases l with
   |nil => exact to k hk (by unfold stepG.exec; simp only [ht]; rfl) (by unfold stepG.exec; simp only [ht]; rfl)
   |cons i rest =>
    cases hw : ((ops[i]?).map (Region.wanted · (yielded ops fr.tmps))).getD false with
    |false => exact mv _ (ylg hf undef) (.inl ((yho fr undef).trans hm)) (by unfold stepG.exec; simp only [ht, hw]; rfl) (by unfold stepG.exec; simp only [ht, hw]; rfl)
    |true =>
     cases ho : ops[i]? with
     |none => rw [ho] at hw; cases hw
     |some o =>
      have hop : fr.oper? = some o := by unfold Frame.oper?; rw [ht]; exact ho
      have ho1 : ok o.op = true := by
       have : ops.all (fun o => ok o.op) = true := hi
       rw [Array.all_eq_true] at this
       obtain ⟨hlt, e⟩ := Array.getElem?_eq_some_iff.1 ho
       rw [← e]
       exact this i hlt
      have ex : ∀ (p : Program) (m : Bool) (cs : List Frame) (w : World), stepG.exec p m true fr cs none w = stepG.apply p true fr cs none (execOp fr.eval o) w := by
       intro p m cs w
       unfold stepG.exec
       simp only [ht, hw, if_true]
       unfold stepG.oper
       simp only [hop, hf.round]
      exact yrj T.subE T.same T.code ht hf hm hc (T.ops X fr o ho1) (fun a v' e => T.ends fr o v a v' ho1 hR.tame e) (fun f args v' e => T.into fr o f args v v' ho1 hR.tame e) hR (eQ.trans (ex Q true _ v)) (eP.trans (ex P m _ w)) h hL
  |code c =>
   cases c with
   |ret => refine mv _ back (.inr rfl) ?_ ?_ <;> (unfold stepG.exec; simp only [ht, hf.round]; rfl)
   |skip => exact to k hk (by unfold stepG.exec; simp only [ht]; rfl) (by unfold stepG.exec; simp only [ht]; rfl)
   |label l => exact to k hk (by unfold stepG.exec; simp only [ht]; rfl) (by unfold stepG.exec; simp only [ht]; rfl)
   |seq a b =>
    have hi' : ych ok a = true ∧ ych ok b = true := by simpa only [yjn, ych, Bool.and_eq_true] using hi
    exact to (.code a :: .code b :: k) (cons _ _ hi'.1 (cons _ _ hi'.2 hk)) (by unfold stepG.exec; simp only [ht]; rfl) (by unfold stepG.exec; simp only [ht]; rfl)
   |cond c a b =>
    have hi' : ych ok a = true ∧ ych ok b = true := by simpa only [yjn, ych, Bool.and_eq_true] using hi
    rw [eQ] at h
    cases he : fr.eval c with
    |bool t =>
     rw [← eQ] at h
     exact to (.code (if t then a else b) :: k) (cons _ _ (by cases t; exact hi'.2; exact hi'.1) hk) (by unfold stepG.exec; simp only [ht, he]; rfl) (by unfold stepG.exec; simp only [ht, he]; rfl)
    |_ => unfold stepG.exec at h; simp only [ht, he] at h; cases h
   |block id b => exact to (.code b :: .inBlock id :: k) (cons _ _ hi (cons _ _ rfl hk)) (by unfold stepG.exec; simp only [ht]; rfl) (by unfold stepG.exec; simp only [ht]; rfl)
   |loop b => exact to (.code b :: .inLoop b :: k) (cons _ _ hi (cons _ _ hi hk)) (by unfold stepG.exec; simp only [ht]; rfl) (by unfold stepG.exec; simp only [ht]; rfl)
   |scope b => exact to (.code b :: .inScope b :: k) (cons _ _ hi (cons _ _ hi hk)) (by unfold stepG.exec; simp only [ht]; rfl) (by unfold stepG.exec; simp only [ht]; rfl)
   |rangeFunc f a b c => cases hi
   |exit id =>
    cases hx : exitTo id k with
    |some k' => exact to k' (ylf hk hx) (by unfold stepG.exec; simp only [ht, hx, Option.elim]; rfl) (by unfold stepG.exec; simp only [ht, hx, Option.elim]; rfl)
    |none =>
     rw [eQ] at h
     unfold stepG.exec at h
     simp only [ht, hx, Option.elim, hf.round] at h
     cases h
   |goto l =>
    cases hx : gotoIn l k with
    |some k' => exact to k' (ylh hk hx) (by unfold stepG.exec; simp only [ht, hx, Option.elim]; rfl) (by unfold stepG.exec; simp only [ht, hx, Option.elim]; rfl)
    |none =>
     rw [eQ] at h
     unfold stepG.exec at h
     simp only [ht, hx, Option.elim, hf.round] at h
     cases h
   |refuse why =>
    rw [eQ] at h
    unfold stepG.exec at h
    simp only [ht] at h
    cases h
   |region id ops draw =>
    cases draw with
    |false => exact to (.inRegion ops (List.range ops.size) :: k) (cons _ _ hi hk) (by unfold stepG.exec; simp only [ht]; rfl) (by unfold stepG.exec; simp only [ht]; rfl)
    |true =>
     have ex : ∀ (p : Program) (m : Bool) (cs : List Frame) (w : World), stepG.exec p m true fr cs none w = .go (gor { fr with todo := .inRegion ops (Region.schedule (p.follows .mixedOrders) ops (w.tape w.drawn (.order fr.fn id))) :: k } cs) { w with drawn := w.drawn + 1 } #[] := by
      intro p m cs w
      unfold stepG.exec
      simp only [ht, Bool.not_true, Bool.false_eq_true, if_false, choose, Sem.run, Question.forced, Question.cut]
      rfl
     rw [eQ, ex] at h
     cases h
     have hd : v.drawn < L.lim := hL
     have e : v.tape v.drawn = w.tape w.drawn := by simpa using hR.fut 0 (by omega)
     refine .inr (.inl ⟨{ w with drawn := w.drawn + 1 }, #[], hR.drew, .of_heap rfl, by simp, .inl ⟨_, inner, ok_todo hf (k := .inRegion ops (Region.schedule (Q.follows .mixedOrders) ops (v.tape v.drawn (.order fr.fn id))) :: k) (cons _ _ hi hk), .inl hm, hc, rfl, ?_⟩⟩)
     rw [eP, ex, ypr T, e]
end
end Go.Sim

namespace Go.Sim
variable {Q : Program}
def ydi (R : Nat → Bool) : Op → Bool
 |.call c => match c.callee with
  |.value (.func f) => R f
  |.builtin _ => true
  |_ => false
 |_ => true
def InR (R : Nat → Bool) : Next → Prop
 |.enter f _ => R f = true
 |_ => True
theorem yqa {R : Nat → Bool} {s : Sem Value} : ybe Q (InR R) (do pure (.value (← s))) := ybe.bind fun _ => ybe.pure trivial
theorem inr_skip {R : Nat → Bool} {s : Sem Unit} : ybe Q (InR R) (do s; pure .skip) := ybe.bind fun _ => ybe.pure trivial
theorem yse {R : Nat → Bool} (b : Builtin) (h : okB b = true) (ts : Array TypeId) (t : TypeId) (cs : Array Bool) (x : Array Value) : ybe Q (InR R) (builtin b ts t cs x) := by
 cases b <;> first | (cases h; done) | skip
 all_goals unfold builtin
 all_goals first | exact yqa | exact ybe.halt _ | exact ybe.pure (φ := InR R) trivial | exact ybe.bind fun _ => ybe.pure trivial
def Owns (Q : Program) (f : Nat) : Prop := ∃ fn, Q.funcs[f]? = some fn ∧ fn.body.isNone = false ∧ (fn.name == "runtime.NumGoroutine") = false
theorem ydt {f : Nat} (h : Owns Q f) (args : Array Value) (w : World) : (callFunc f args).run Q w = .ok (.enter f args) w := by
 obtain ⟨fn, hq, h1, h2⟩ := h
 show (Sem.program fun p => match p.funcs[f]? with
  |none => stuck "call: no such function"
  |some fn => _).run Q w = _
 simp only [Sem.run, hq, h1, h2]
 rfl
theorem yim {f : Nat} (h : Owns Q f) (args : Array Value) (w : World) (es : Array Event) : (callFunc f args).runT Q w es = (.ok (.enter f args) w, es) := by
 obtain ⟨fn, hq, h1, h2⟩ := h
 show (Sem.program fun p => match p.funcs[f]? with
  |none => stuck "call: no such function"
  |some fn => _).runT Q w es = _
 simp only [Sem.runT, hq, h1, h2]
 rfl
section
variable {P : Program} {R : Nat → Bool}
theorem zfn {X : Nat → Prop} {Esc : Next → Prop} (hT : P.toTables = Q.toTables) (hP : ∀ f, R f = true → Owns P f) (hQ : ∀ f, R f = true → Owns Q f) (fr : Frame) (o : Oper) (hk : ydf Q o.op = true) (ho : ydi R o.op = true) : yac P Q X Esc (execOp fr.eval o) := by
 refine zbx hT fr.eval o hk fun c hop => ?_
 rw [hop] at ho hk
 unfold resolve
 dsimp only
 cases hc : c.callee with
 |builtin b =>
  simp only [ydf, hc] at hk
  exact zeq (zau hT b hk _ _ _ _)
 |invoke r n => simp [ydi, hc] at ho
 |value x =>
  cases x with
  |func f =>
   simp only [ydi, hc] at ho
   refine zeq ?_
   show yac P Q X Esc (callFunc f _)
   intro L w v es h _
   rw [ydt (hQ f ho), yim (hP f ho)]
   exact .inr ⟨w, #[], by simp, h, .refl X w, by simp⟩
  |_ => simp [ydi, hc] at ho
theorem yly (hQ : ∀ f, R f = true → Owns Q f) (fr : Frame) (o : Oper) {v : World} (ho : ydi R o.op = true) (hk : ydf Q o.op = true) (a : Next) (v' : World) (e : (execOp fr.eval o).run Q v = .ok a v') : okN a ∧ InR R a := by
 unfold execOp at e
 dsimp only at e
 split at e
 all_goals first | exact ⟨yiu _ _ _ e, yqa _ _ _ e⟩ | exact ⟨ypm _ _ _ e, inr_skip _ _ _ e⟩ | exact ⟨ybe.bind (fun _ => ybe.pure trivial) _ _ _ e, ybe.bind (fun _ => ybe.pure trivial) _ _ _ e⟩ | exact ⟨ybe.pure trivial _ _ _ e, ybe.pure trivial _ _ _ e⟩ | (rename_i hop; rw [hop] at hk; cases hk; done) | skip
 ·split at e
  all_goals first | exact ⟨yar _ _ _ _ e, yar _ _ _ _ e⟩ | exact ⟨ybe.pure trivial _ _ _ e, ybe.pure trivial _ _ _ e⟩ | skip
  split at e
  all_goals first | exact ⟨yar _ _ _ _ e, yar _ _ _ _ e⟩ | exact ⟨ybe.pure trivial _ _ _ e, ybe.pure trivial _ _ _ e⟩ | skip
  exact ⟨ybe.bind (fun _ => ybe.bind fun _ => by split <;> first | exact ybe.bind (fun _ => ybe.pure trivial) | exact ybe.pure trivial) _ _ _ e, ybe.bind (fun _ => ybe.bind fun _ => by split <;> first | exact ybe.bind (fun _ => ybe.pure trivial) | exact ybe.pure trivial) _ _ _ e⟩
 ·next c hop =>
  rw [hop] at ho hk
  unfold resolve at e
  dsimp only at e
  cases hc : c.callee with
  |builtin b =>
   rw [hc] at e
   simp only [ydf, hc] at hk
   exact ⟨yjk b hk _ _ _ _ _ _ _ (pb e), yse b hk _ _ _ _ _ _ _ (pb e)⟩
  |invoke r n => simp [ydi, hc] at ho
  |value x =>
   rw [hc] at e
   cases x with
   |func f =>
    simp only [ydi, hc] at ho
    have e2 : (callFunc f _).run Q v = .ok a v' := pb e
    rw [ydt (hQ f ho)] at e2
    cases e2
    exact ⟨trivial, ho⟩
   |_ => simp [ydi, hc] at ho
theorem yjy.static {P Q : Program} {R : Nat → Bool} (hT : P.toTables = Q.toTables) (hP : ∀ f, R f = true → Owns P f) (hQ : ∀ f, R f = true → Owns Q f) (hsame : ∀ f, R f = true → P.funcs[f]? = Q.funcs[f]?)
  (hcode : ∀ (f : Nat) fn c, R f = true → Q.funcs[f]? = some fn → fn.body = some c → ych (fun o => ydf Q o && ydi R o) c = true) {E : Nat → Prop} (hE : ∀ f, ¬ E f → R f = true) : yjy P Q (fun o => ydf Q o && ydi R o) (fun f => R f = true) (fun _ => False) (fun f => E f) E where
 tables := hT
 ops := fun X fr o ho => zfn hT hP hQ fr o (Bool.and_eq_true_iff.1 ho).1 (Bool.and_eq_true_iff.1 ho).2
 ends := fun fr o v a v' ho _ e => (yly hQ fr o (Bool.and_eq_true_iff.1 ho).2 (Bool.and_eq_true_iff.1 ho).1 a v' e).1
 into := fun fr o f args v v' ho _ e => by
  have h := (yly hQ fr o (Bool.and_eq_true_iff.1 ho).2 (Bool.and_eq_true_iff.1 ho).1 _ v' e).2
  obtain ⟨fn, hq, _⟩ := hQ f h
  exact ⟨h, fn, hq⟩
 same := fun f h _ => hsame f h
 code := fun f fn c h _ h1 h2 => hcode f fn c h h1 h2
 sub := fun _ h => h.elim
 subE := fun _ h => h
 res := fun f fQ hE' h => ⟨fQ, by rw [hsame f (hE f hE')]; exact h, rfl⟩
end
end Go.Sim
