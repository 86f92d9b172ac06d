/- The model's own operations are done alike: complex numbers. Conversions, methods, calls are done alike. Operators, conversions, methods are done alike. A string's bytes laid out are laid alike. Conversions are done alike. Methods, rounds, panics are done alike. unsafe.String: the bytes are read ahead of the freeze. Two functions of the library's that have no body (bytealg.MakeNoZero, abi.NoEscape): what the model does in their place is done alike. Calls are done alike, but where a function is entered that differs. Conversions of any kind, where the two worlds hold the same memory. Every operation of a checked text is done alike. Every operation of a checked text is done alike: all together. What an operation that is let by may yield; a call's results; the code that is let by. A step of a goroutine is taken alike by two programs in two worlds. A step of a goroutine is taken alike by two programs in two worlds. A step of a goroutine is taken alike by two programs in two worlds: the step. A step of a goroutine is taken alike by two programs in two worlds: all steps. Code that calls by name alone, and within a set: where it goes. -/
import Derived.Test.YtaelaldmibgibaaGreatDoorT21

set_option linter.unusedVariables false
set_option linter.unusedSimpArgs false
set_option linter.unusedSectionVars false
set_option maxHeartbeats 4000000

namespace Go.Sim
variable {P Q : Program} {X : Nat → Prop}
variable (hT : P.toTables = Q.toTables)
theorem zes {Esc : Nat × Nat → Prop} (a b c d : Nat) : yaa P Q X Esc (Op.Complex.product a b c d) := by
 unfold Op.Complex.product
 (repeat' first
  |exact yaa.pure _
  |with_reducible first | assumption | apply zax | apply zbn | apply zbf
  |refine yaa.bind ?_ (fun _ => ?_)
  |split
  |dsimp only)
theorem zbl {Esc : Nat × Nat → Prop} (s a b c d : Nat) : yaa P Q X Esc (Op.Complex.corrected s a b c d) := by
 unfold Op.Complex.corrected
 (repeat' first
  |exact yaa.pure _
  |with_reducible first | assumption | apply zax | apply zbn | apply zbf
  |refine yaa.bind ?_ (fun _ => ?_)
  |split
  |dsimp only)
theorem zev {Esc : Nat × Nat → Prop} (a b c d : Nat) : yaa P Q X Esc (Op.Complex.quotient a b c d) := by
 unfold Op.Complex.quotient
 (repeat' first
  |exact yaa.pure _
  |with_reducible first | assumption | apply zax | apply zbn | apply zbf | apply zbm | apply zbl | refine zeu ?_
  |refine yaa.bind ?_ (fun _ => ?_)
  |split
  |dsimp only)
theorem zbg {Esc : Value → Prop} (op : BinOp) (k : FloatKind) (a b c d : Nat) : yaa P Q X Esc (Op.complexOp op k a b c d) := by
 unfold Op.complexOp
 (repeat' first
  |exact yaa.pure _
  |exact yaa.halt _
  |with_reducible first | assumption | apply zaf | apply zbi | apply zes | apply zev
  |refine yaa.bind ?_ (fun _ => ?_)
  |split
  |dsimp only)
end Go.Sim

namespace Go.Sim
variable {P Q : Program} {X : Nat → Prop}
variable (hT : P.toTables = Q.toTables)
theorem zdw {Esc : Value → Prop} (x y : Value) : yaa P Q X Esc (Builtin.min2 x y) := by
 unfold Builtin.min2
 (repeat' first
  |exact yaa.pure _
  |exact yaa.halt _
  |with_reducible first | assumption | apply zbd
  |refine yaa.bind ?_ (fun _ => ?_)
  |split
  |dsimp only)
theorem zds {Esc : Value → Prop} (x y : Value) : yaa P Q X Esc (Builtin.max2 x y) := by
 unfold Builtin.max2
 (repeat' first
  |exact yaa.pure _
  |exact yaa.halt _
  |with_reducible first | assumption | apply zbd
  |refine yaa.bind ?_ (fun _ => ?_)
  |split
  |dsimp only)
theorem zcj {β : Type} {f : β → Value → Sem β} (hf : ∀ a b, Sim P Q X (f a b)) (l : List Value) : ∀ a, Sim P Q X (l.foldlM f a) := by
 induction l with
 |nil => exact fun a => yaa.pure _
 |cons b l ih => exact fun a => yaa.bind (hf a b) fun c => ih c
theorem zdv {Esc : Value → Prop} (ts : Array TypeId) (t : TypeId) (x : Array Value) : yaa P Q X Esc (Builtin.min_ ts t x) := by
 unfold Builtin.min_
 split
 ·exact yaa.halt _
 ·exact (zcj (fun _ _ => zdw _ _) _ _).of
theorem zdr {Esc : Value → Prop} (ts : Array TypeId) (t : TypeId) (x : Array Value) : yaa P Q X Esc (Builtin.max_ ts t x) := by
 unfold Builtin.max_
 split
 ·exact yaa.halt _
 ·exact (zcj (fun _ _ => zds _ _) _ _).of
theorem zaw (hT : P.toTables = Q.toTables) {Esc : Value → Prop} (x : Value) : yaa P Q X Esc (Conv.bytesToString x) := by
 unfold Conv.bytesToString
 (repeat' first
  |exact yaa.pure _
  |exact yaa.halt _
  |with_reducible first | assumption | apply zdf
  |refine yaa.bind ?_ (fun _ => ?_)
  |refine zcm (fun _ _ => ?_) _
  |split
  |dsimp only)
theorem zfb (hT : P.toTables = Q.toTables) {Esc : Value → Prop} (x : Value) : yaa P Q X Esc (Conv.runesToString x) := by
 unfold Conv.runesToString
 (repeat' first
  |exact yaa.pure _
  |exact yaa.halt _
  |with_reducible first | assumption | apply zdf
  |refine yaa.bind ?_ (fun _ => ?_)
  |refine zcm (fun _ _ => ?_) _
  |split
  |dsimp only)
theorem zfz {Esc : Value → Prop} (t : TypeId) (x : ByteArray) : yaa P Q X Esc (Conv.stringToRunes t x) := by
 unfold Conv.stringToRunes
 (repeat' first
  |exact yaa.pure _
  |with_reducible first | assumption | apply zed | apply zbd
  |refine yaa.bind ?_ (fun _ => ?_)
  |split
  |dsimp only)
theorem zci {Esc : Value → Prop} (k : FloatKind) (b : Nat) (l : IntKind) : yaa P Q X Esc (Conv.floatToInt k b l) := by
 unfold Conv.floatToInt
 (repeat' first
  |exact yaa.pure _
  |with_reducible first | assumption | apply zbd
  |refine yaa.bind ?_ (fun _ => ?_)
  |split
  |dsimp only)
theorem zbh {Esc : Value → Prop} (k : FloatKind) (a b : Nat) (l : FloatKind) : yaa P Q X Esc (Conv.complexToComplex k a b l) := by
 unfold Conv.complexToComplex
 (repeat' first
  |exact yaa.pure _
  |exact yaa.halt _
  |with_reducible first | assumption | apply zch
  |refine yaa.bind ?_ (fun _ => ?_)
  |split
  |dsimp only)
theorem zgb (hT : P.toTables = Q.toTables) {Esc : Nat × Nat → Prop} (a b : Addr) : yaa P Q X Esc (Op.twoPlaces a b) := by
 unfold Op.twoPlaces
 refine zet (by simp only [hT]) ?_
 (repeat' first
  |exact yaa.pure _
  |exact yaa.halt _
  |with_reducible first | assumption | apply zav
  |refine yaa.bind ?_ (fun _ => ?_)
  |split
  |dsimp only)
theorem zac (hT : P.toTables = Q.toTables) {Esc : Value → Prop} (k : IntKind) (a b : Addr) : yaa P Q X Esc (Op.addrSub k a b) := by
 unfold Op.addrSub
 (repeat' first
  |exact yaa.pure _
  |with_reducible first | assumption | apply zgb
  |refine yaa.bind ?_ (fun _ => ?_)
  |split
  |dsimp only)
theorem zaa (hT : P.toTables = Q.toTables) {Esc : Value → Prop} (op : BinOp) (a b : Addr) : yaa P Q X Esc (Op.addrCmp op a b) := by
 unfold Op.addrCmp
 (repeat' first
  |exact yaa.pure _
  |exact yaa.halt _
  |with_reducible first | assumption | apply zgb
  |refine yaa.bind ?_ (fun _ => ?_)
  |split
  |dsimp only)
theorem zab (hT : P.toTables = Q.toTables) {Esc : Value → Prop} (k : IntKind) (a : Addr) (n : Int) : yaa P Q X Esc (Op.addrMod k a n) := by
 unfold Op.addrMod
 refine zfi (fun _ _ _ => rfl) fun x => ?_
 (repeat' first
  |exact yaa.pure _
  |exact yaa.halt _
  |with_reducible first | assumption | apply zgd | apply zav
  |refine yaa.bind ?_ (fun _ => ?_)
  |split
  |dsimp only)
theorem yaa.shapeX {α : Type} {Esc : α → Prop} {r : Nat} {k : Option (TypeId × Nat) → Sem α} (hX : ∀ t v, ∃ x v', (k (some (t, 0))).run Q v = .halt x v' ∧ yie x = true) (hk : ∀ x, yaa P Q X Esc (k x)) : yaa P Q X Esc (Go.shape r >>= k) := by
 intro L w v es h
 show ybd X L Esc w es ((Sem.shape r k).runT P w es) ((Sem.shape r k).run Q v)
 simp only [Sem.run, Sem.runT]
 by_cases hx : X r
 ·obtain ⟨c, t, hw, hv⟩ := h.bare r hx
  simp only [World.shape?, hv]
  obtain ⟨x, v', e, hn⟩ := hX t v
  rw [show (#[] : Array Value).size = 0 from rfl, e]
  exact .halt hn
 ·have : v.shape? r = w.shape? r := h.shapeN hx
  rw [this]
  exact hk _ _ _ _ _ h
theorem cab_nil (p : Program) (d : Nat) (e : TypeId) (off : Nat) (b : Int) : cellAtBytes p d e 0 off b = none := by
 unfold cellAtBytes
 dsimp only
 split
 ·rfl
 ·cases byteOfCell p d e (off % p.cellsOf e) with
  |none => rfl
  |some here =>
   show (if _ then _ else _) = _
   rw [if_pos]
   ·rfl
   ·simp only [Nat.zero_mul, Bool.or_eq_true, decide_eq_true_eq, Int.ofNat_eq_natCast]
    omega
theorem cob_eq (hT : P.toTables = Q.toTables) (d : Nat) : ∀ t b, cellOfByte P d t b = cellOfByte Q d t b := by
 induction d with
 |zero => intro t b; rfl
 |succ d ih =>
  intro t b
  unfold cellOfByte
  simp only [yff hT, ycr hT, yfk hT, ih]
theorem cab_eq (hT : P.toTables = Q.toTables) (d : Nat) (e : TypeId) (c off : Nat) (b : Int) : cellAtBytes P d e c off b = cellAtBytes Q d e c off b := by
 unfold cellAtBytes
 simp only [ycr hT, yfk hT, yee hT, cob_eq hT]
theorem zgj (hT : P.toTables = Q.toTables) {Esc : Value → Prop} (ts : Array TypeId) (t : TypeId) (x : Array Value) : yaa P Q X Esc (Builtin.unsafeAdd_ ts t x) := by
 have tail : ∀ (ptr : Option Addr) (n : Int), yaa P Q X Esc (match ptr with
   |some a => Go.shape a.block >>= fun s => match s with
    |some (e, cells) => program >>= fun p => match cellAtBytes p p.depth e (cells / p.cellsOf e) a.off n with
     |some off => pure (.pointer (some { a with off }))
     |none => unsupported (.unsafePointer "Add")
    |_ => unsupported (.unsafePointer "Add")
   |_ => unsupported (.unsafePointer "Add")) := by
  intro ptr n
  split
  ·refine yaa.shapeX (fun t v => ?_) fun s => ?_
   ·refine ⟨.unsupported (.unsafePointer "Add"), v, ?_, rfl⟩
    show Sem.run Q (Sem.program fun p => _) v = _
    simp only [Sem.run, Nat.zero_div, cab_nil]
    rfl
   ·split
    ·refine zet (by simp only [cab_eq hT, ycr hT, ycc hT]) ?_
     (repeat' first
  |exact yaa.pure _
  |exact yaa.halt _
  |with_reducible first | assumption | apply zak
  |refine yaa.bind ?_ (fun _ => ?_)
  |split
  |dsimp only)
    ·exact yaa.halt _
  ·exact yaa.halt _
 rcases x with ⟨_ | ⟨v, _ | ⟨l, _ | ⟨_, _⟩⟩⟩⟩ <;> first | exact yaa.halt _ | skip
 cases v <;> first | exact yaa.halt _ | skip
 next ptr =>
 refine yaa.bind (zak l) fun n => ?_
 dsimp only
 split
 ·split
  ·exact zgp (fun v => ⟨_, _, rfl, (by rfl)⟩) (yaa.pure _)
  ·exact yaa.halt _
 ·split
  ·exact yaa.bind (yaa.halt _) fun _ => tail ptr n
  ·exact tail ptr n
end Go.Sim

namespace Go.Sim
variable {P Q : Program} {X : Nat → Prop}
variable (hT : P.toTables = Q.toTables)
theorem zam {Esc : Value → Prop} (a : Addr) (b : Bool) : yaa P Q X Esc (asNumber a b) := yaa.bind (zec _ rfl) fun _ => yaa.pure _
theorem zdx (hT : P.toTables = Q.toTables) {Esc : Value → Prop} (t : TypeId) (x y : Value) : yaa P Q X Esc (movedNumber t x y) := by
 unfold movedNumber
 (repeat' first
  |exact yaa.pure _
  |exact yaa.halt _
  |with_reducible first | assumption | apply zgi | apply zao | apply zgj | apply zam
  |refine yaa.bind ?_ (fun _ => ?_)
  |split
  |dsimp only)
theorem zdy (hT : P.toTables = Q.toTables) {Esc : Value → Prop} (t : TypeId) (x y : Value) : yaa P Q X Esc (movedPointer t x y) := by
 unfold movedPointer
 (repeat' first
  |exact yaa.halt _
  |with_reducible first | assumption | apply zem | apply zgj
  |refine yaa.bind ?_ (fun _ => ?_)
  |split
  |dsimp only)
theorem zap (hT : P.toTables = Q.toTables) {Esc : Value → Prop} (op : BinOp) (t : TypeId) (x y : Value) : yaa P Q X Esc (binOp op t x y) := by
 unfold binOp
 split
 all_goals first
  |exact zdx hT _ _ _
  |(refine yaa.bind (zgi hT _) (fun d => ?_)
    split
    ·first
      |(rw [if_pos rfl]; exact zdy hT _ _ _)
      |(rw [if_neg (by decide)]; exact zdx hT _ _ _)
    ·rw [if_neg (by decide)]; exact zdx hT _ _ _)
  |(repeat' first
  |exact yaa.pure _
  |exact yaa.halt _
  |with_reducible first | assumption | apply zgi | apply zao | apply zbu | apply zcv | apply zcw | apply zfk | apply zfx | apply zcf | apply zcg | apply zbg | apply zac | apply zaa | apply zab | apply zdx | apply zdy
  |refine yaa.bind ?_ (fun _ => ?_)
  |split
  |dsimp only)
end Go.Sim

namespace Go.Sim
variable {P Q : Program} {X : Nat → Prop}
theorem zfy {Esc : Value → Prop} (t : TypeId) (s : ByteArray) : yaa P Q X Esc (Conv.stringToBytes t s) := by
 unfold Conv.stringToBytes
 refine yaa.bind (zbd _) fun cap => ?_
 intro L w v es h
 generalize hc : (s.data.map fun b => Value.int .u8 b.toNat) ++ Array.replicate (cap - s.size) (Value.int .u8 0) = c
 have hXn : ¬ X w.heap.size := by
  intro hx
  exact absurd (h.xlt hx) (Nat.lt_irrefl _)
 have e1 : ∀ (R : Program) (u : World), (do let a ← newRow t c
                                            markStringish a
                                            pure (.slice (some a) s.size cap) : Sem Value).run R u = .ok (.slice (some ⟨u.heap.size, 0, none⟩) s.size cap) (({ u with heap := u.heap.push (.cells c t) } : World).freeze { block := u.heap.size, off := c.size } 1) := by
  intro R u
  show Sem.run R (Sem.new (.cells c t) fun r => Sem.shape r fun x => _) u = _
  simp only [Sem.run, World.shape?, Array.getElem?_push_size]
  rfl
 have e2 : ∀ (R : Program) (u : World), (do let a ← newRow t c
                                            markStringish a
                                            pure (.slice (some a) s.size cap) : Sem Value).runT R u es = (.ok (.slice (some ⟨u.heap.size, 0, none⟩) s.size cap) (({ u with heap := u.heap.push (.cells c t) } : World).freeze { block := u.heap.size, off := c.size } 1), es) := by
  intro R u
  show Sem.runT R (Sem.new (.cells c t) fun r => Sem.shape r fun x => _) u es = _
  simp only [Sem.runT, World.shape?, Array.getElem?_push_size]
  rfl
 have hR := (h.pushed (.cells c t) rfl).freeze (a := { block := w.heap.size, off := c.size }) hXn 1
 show ybd X L Esc w es (Sem.runT P (newRow t ((s.data.map fun b => Value.int .u8 b.toNat) ++ Array.replicate (cap - s.size) (Value.int .u8 0)) >>= fun a => markStringish a >>= fun _ => pure (.slice (some a) s.size cap)) w es) (Sem.run Q (newRow t ((s.data.map fun b => Value.int .u8 b.toNat) ++ Array.replicate (cap - s.size) (Value.int .u8 0)) >>= fun a => markStringish a >>= fun _ => pure (.slice (some a) s.size cap)) v)
 rw [hc, e1, e2, h.size]
 refine fun _ => .inr ⟨_, #[], by simp only [Array.append_empty], hR, ?_, by simp⟩
 exact (h.grows_push _).trans (yfn hXn 1)
end Go.Sim

namespace Go.Sim
variable {P Q : Program} {X : Nat → Prop}
variable (hT : P.toTables = Q.toTables)
theorem zgh (hT : P.toTables = Q.toTables) {α : Type} {Esc : α → Prop} {t : TypeId} {f : TypeDesc → Sem α} (h : ∀ d, Q.underlying t = some d → yaa P Q X Esc (f d)) : yaa P Q X Esc (underlying t >>= f) := by
 show yaa P Q X Esc (program >>= fun p => (match p.underlying t with | some d => pure d | none => stuck "no such type" : Sem TypeDesc) >>= f)
 refine zet (by simp only [yff hT]) ?_
 cases hq : Q.underlying t with
 |none => exact yaa.halt _
 |some d => exact h d hq
theorem zbj (hT : P.toTables = Q.toTables) {Esc : Value → Prop} (src dst : TypeId) (x : Value) (h1 : Q.underlying src ≠ some .unsafePointer) (h2 : Q.underlying dst ≠ some .unsafePointer) (h3 : ∀ e, Q.underlying dst = some (.slice e) → src ≠ dst) : yaa P Q X Esc (convert src dst x) := by
 unfold convert
 refine zgh hT fun d hd => zgh hT fun e he => ?_
 split
 ·exact yaa.pure _
 ·exact yaa.pure _
 ·exact zci _ _ _
 ·exact zch _ _ _
 ·exact zbh _ _ _ _
 ·exact yaa.pure _
 ·exact yaa.pure _
 ·refine yaa.bind (zgi hT _) fun _ => ?_
  split
  ·exact zfy _ _
  ·exact zfz _ _
  ·exact yaa.halt _
 ·have hne : (src == dst) = false := by simpa using h3 _ he
  refine yaa.bind (zgi hT _) fun _ => ?_
  rw [hne]
  split
  ·next h => cases h
  ·exact yaa.halt _
 ·refine yaa.bind (zgi hT _) fun _ => ?_
  split
  ·exact zaw hT _
  ·exact zfb hT _
  ·exact yaa.halt _
 ·exact absurd hd h1
 ·exact absurd he h2
 ·exact yaa.halt _
 ·exact yaa.halt _
end Go.Sim

namespace Go.Sim
variable {P Q : Program} {X : Nat → Prop}
variable (hT : P.toTables = Q.toTables)
theorem zcq (hT : P.toTables = Q.toTables) {Esc : Value → Prop} (t : TypeId) (x : Place) : yaa P Q X Esc (x.get t) := by
 unfold Place.get
 (repeat' first
  |exact yaa.pure _
  |with_reducible first | assumption | apply zdh
  |split
  |dsimp only)
theorem zck (hT : P.toTables = Q.toTables) (l : List FieldStep) : ∀ t x, Sim P Q X (follow l t x) := by
 induction l with
 |nil => exact fun t x => yaa.pure _
 |cons s l ih =>
  intro t x
  unfold follow
  (repeat' first
  |exact yaa.pure _
  |exact yaa.halt _
  |with_reducible first | assumption | apply ih | apply zgi | apply zah | apply zep | apply zcb | apply zcq
  |refine yaa.bind ?_ (fun _ => ?_)
  |split
  |dsimp only)
theorem zgr (hT : P.toTables = Q.toTables) {Esc : Value → Prop} (ts : Array TypeId) (t : TypeId) (x : Array Value) : yaa P Q X Esc (Builtin.ssaWrapNilChk_ ts t x) := by
 unfold Builtin.ssaWrapNilChk_
 rcases x with ⟨_ | ⟨a, _ | ⟨b, _ | ⟨c, _ | ⟨_, _⟩⟩⟩⟩⟩ <;> first | exact yaa.halt _ | skip
 cases b <;> first | exact yaa.halt _ | skip
 cases c <;> first | exact yaa.halt _ | skip
 cases a <;> first | exact yaa.halt _ | skip
 next p =>
 cases p
 ·refine yaa.bind (zbd _) (fun _ => ?_)
  (repeat' first
  |exact yaa.pure _
  |exact yaa.halt _
  |with_reducible first | assumption | apply zgd | apply zgi | apply zfc | apply zbd
  |refine yaa.bind ?_ (fun _ => ?_)
  |split
  |dsimp only)
 ·exact yaa.pure _
theorem zey (hT : P.toTables = Q.toTables) {Esc : Value → Prop} (t : TypeId) (x : Place) (b : Bool) (o : Option String) : yaa P Q X Esc (receiverAt t x b o) := by
 unfold receiverAt
 (repeat' first
  |exact yaa.pure _
  |exact yaa.halt _
  |with_reducible first | assumption | apply zgi | apply zdh | apply zah | apply zcq | apply zgr | refine zeu ?_
  |refine yaa.bind ?_ (fun _ => ?_)
  |split
  |dsimp only)
theorem zez (hT : P.toTables = Q.toTables) {Esc : Value → Prop} (t : TypeId) (v : Value) (p : Array FieldStep) (b : Bool) : yaa P Q X Esc (receiverVia t v p b) := by
 unfold receiverVia
 (repeat' first
  |with_reducible first | assumption | apply zck | apply zey
  |refine yaa.bind ?_ (fun _ => ?_)
  |split
  |dsimp only)
theorem zdu (hT : P.toTables = Q.toTables) (n : Nat) : ∀ t v s, Sim P Q X (method n t v s) := by
 induction n with
 |zero => exact fun t v s => yaa.halt _
 |succ n ih =>
  intro t v s
  unfold method
  (repeat' first
  |exact yaa.pure _
  |exact yaa.halt _
  |with_reducible first | assumption | apply ih | apply zgd | apply zfc | apply zcq | apply zck | apply zey
  |refine yaa.bind ?_ (fun _ => ?_)
  |split
  |dsimp only)
theorem zcl (hT : P.toTables = Q.toTables) (l : List FieldStep) : ∀ t x, Sim P Q X (followBlind l t x) := by
 induction l with
 |nil => exact fun t x => yaa.pure _
 |cons s l ih =>
  intro t x
  unfold followBlind
  (repeat' first
  |exact yaa.pure _
  |exact yaa.halt _
  |with_reducible first | assumption | apply ih | apply zgi | apply zep
  |refine yaa.bind ?_ (fun _ => ?_)
  |split
  |dsimp only)
theorem zeh (hT : P.toTables = Q.toTables) (n : Nat) : ∀ t v s, Sim P Q X (nilAhead n t v s) := by
 induction n with
 |zero => exact fun t v s => yaa.pure _
 |succ n ih =>
  intro t v s
  unfold nilAhead
  (repeat' first
  |exact yaa.pure _
  |exact yaa.halt _
  |with_reducible first | assumption | apply ih | apply zgd | apply zgi | apply zcl
  |refine yaa.bind ?_ (fun _ => ?_)
  |split
  |dsimp only)
theorem zcr {Esc : Loop → Prop} (l : Nat) : yaa P Q X Esc (Instr.getLoop l) := by
 unfold Instr.getLoop
 (repeat' first
  |exact yaa.pure _
  |exact yaa.halt _
  |with_reducible assumption
  |((with_reducible refine zcs ?_ (fun _ => ?_)); · (intro o ho; cases o <;> first | (cases ho; done) | exact .inl rfl | exact .inr fun v => ⟨_, _, rfl, (by rfl)⟩))
  |split
  |dsimp only)
theorem zgs {Esc : Next → Prop} (l : Nat) (x : Array Value) : yaa P Q X Esc (Instr.yield l x) := by
 unfold Instr.yield
 (repeat' first
  |exact yaa.pure _
  |exact yaa.halt _
  |with_reducible first | assumption | apply zcr
  |refine yaa.bind ?_ (fun _ => ?_)
  |split
  |dsimp only)
end Go.Sim

namespace Go.Sim
variable {P Q : Program} {X : Nat → Prop}
variable (hT : P.toTables = Q.toTables)
theorem yvb (hT : P.toTables = Q.toTables) (t : TypeId) : P.stoodInHeld t = Q.stoodInHeld t := by unfold Program.stoodInHeld Program.stoodInAs; simp only [yff hT, uid_eq hT, ycc hT, ypu hT, hT]
theorem layout_eq (hT : P.toTables = Q.toTables) (d : Nat) : ∀ t u, sameLayout P d t u = sameLayout Q d t u := by
 induction d with
 |zero => exact fun _ _ => rfl
 |succ d ih =>
  intro t u
  unfold sameLayout
  simp only [uid_eq hT, yff hT, yvb hT, ih]
theorem row_eq (hT : P.toTables = Q.toTables) (fits : TypeId → Bool) (d : Nat) : ∀ e c o n, rowAt P fits d e c o n = rowAt Q fits d e c o n := by
 induction d with
 |zero => exact fun _ _ _ _ => rfl
 |succ d ih =>
  intro e c o n
  unfold rowAt
  simp only [ycr hT, yff hT, yvb hT, ih]
theorem lies_eq (hT : P.toTables = Q.toTables) (d : Nat) : ∀ e c o u n, liesAt P d e c o u n = liesAt Q d e c o u n := by
 induction d with
 |zero => exact fun _ _ _ _ _ => rfl
 |succ d ih =>
  intro e c o u n
  unfold liesAt
  simp only [yff hT, ycc hT, row_eq hT, ih]
  have : (fun x => sameLayout P Q.depth x u) = (fun x => sameLayout Q Q.depth x u) := funext fun x => layout_eq hT _ _ _
  rw [this]
theorem zgn (hT : P.toTables = Q.toTables) {Esc : Bool → Prop} (a : Addr) (hX : ¬ X a.block) (u : TypeId) (n : Nat) : yaa P Q X Esc (variablesAt a u n) := by
 intro L w v es h
 show ybd X L Esc w es ((Sem.program fun p => Sem.shape a.block fun x => _).runT P w es) ((Sem.program fun p => Sem.shape a.block fun x => _).run Q v)
 simp only [Sem.run, Sem.runT, h.shapeN hX]
 cases w.shape? a.block with
 |none => exact yaa.pure _ L w v es h
 |some x =>
  obtain ⟨e, c⟩ := x
  simp only [ycc hT, ycr hT, lies_eq hT]
  exact yaa.pure _ L w v es h
theorem ywo {L : Lim} {w v : World} (h : Rel X L w v) (Q : Program) {a : Addr} (hX : X a.block) (u : TypeId) (n : Nat) : ∃ y v', (do
      if ← variablesAt a u (n + 1) then do
       let s ← loadBytes a .empty (n + 1)
       freeze a (n + 1)
       pure (.string s)
      else unsupported (.unsafePointer "String: not so many bytes at ptr") : Sem Value).run Q v = .halt y v' ∧ yie y = true := by
 have e : ∃ b, (variablesAt a u (n + 1)).run Q v = .ok b v := by
  show ∃ b, (Sem.program fun p => Sem.shape a.block fun x => _).run Q v = .ok b v
  simp only [Sem.run]
  cases v.shape? a.block with
  |none => exact ⟨_, rfl⟩
  |some x => exact ⟨_, rfl⟩
 obtain ⟨b, e⟩ := e
 show ∃ y v', ((variablesAt a u (n + 1)).bind fun b => _).run Q v = _ ∧ _
 rw [run_bind, e]
 cases b with
 |false => exact ⟨_, _, rfl, (by rfl)⟩
 |true =>
  have hc : v.cell? a = none := h.xcell hX
  obtain ⟨y, e2, hy⟩ : ∃ y, v.farLoad Q a (Mode.plain == .atomic) = .error y ∧ yie y = true := by
   obtain ⟨c, t, _, hv⟩ := h.bare _ hX
   unfold World.farLoad
   rw [hv]
   exact ⟨_, rfl, yey h a _⟩
  refine ⟨y, v, ?_, hy⟩
  show (Sem.load .plain a fun z => _).run Q v = _
  simp only [Sem.run, hc, e2]
end Go.Sim

namespace Go.Sim
variable {P Q : Program} {X : Nat → Prop}
def Nat2 (fn : Func) : Prop := fn.body.isNone = true ∧ Extern.findNext fn = none ∧ ((∃ ps rs, Extern.find fn = some (Extern.BytealgMakeNoZero.makeNoZero ps rs)) ∨ Extern.find fn = some Extern.AbiNoEscape.same)
def Done (fn : Func) : Prop := (fn.body.isNone = false ∨ Nat2 fn) ∧ (fn.name == "runtime.NumGoroutine") = false
theorem zel (hT : P.toTables = Q.toTables) {Esc : Value → Prop} (ps rs : Array TypeId) (x : Array Value) : yaa P Q X Esc (Extern.BytealgMakeNoZero.makeNoZero ps rs x) := by
 obtain ⟨l⟩ := x
 rcases l with _ | ⟨a, _ | ⟨b, l⟩⟩
 ·exact yaa.halt _
 ·cases a <;> first | exact yaa.halt _ | skip
  rename_i k n
  cases k <;> first | exact yaa.halt _ | skip
  unfold Extern.BytealgMakeNoZero.makeNoZero
  dsimp only
  split
  ·refine yaa.bind (zgi hT _) fun d => ?_
   split
   ·(repeat' first
  |exact yaa.pure _
  |exact yaa.halt _
  |with_reducible first | assumption | apply zgi | apply zfc | apply zed | apply zbd | apply zan
  |refine yaa.bind ?_ (fun _ => ?_)
  |split
  |dsimp only)
   ·exact yaa.halt _
  ·exact yaa.halt _
 ·exact yaa.halt _
theorem zej {Esc : Value → Prop} (x : Array Value) : yaa P Q X Esc (Extern.AbiNoEscape.same x) := by
 obtain ⟨l⟩ := x
 rcases l with _ | ⟨a, _ | ⟨b, l⟩⟩
 ·exact yaa.halt _
 ·exact yaa.pure _
 ·exact yaa.halt _
theorem zdz {Esc : Next → Prop} {f : Nat} {fn : Func} (hT : P.toTables = Q.toTables) (hP : P.funcs[f]? = some fn) (hQ : Q.funcs[f]? = some fn) (hn : Nat2 fn) (h2 : (fn.name == "runtime.NumGoroutine") = false) (args : Array Value) : yaa P Q X Esc (callFunc f args) := by
 obtain ⟨h1, h3, h4⟩ := hn
 show yaa P Q X Esc (Sem.program fun p => match p.funcs[f]? with
  |none => stuck "call: no such function"
  |some fn => _)
 refine yaa.program (by simp only [hP, hQ]) ?_
 rw [hQ]
 dsimp only
 rw [h2, h1]
 show yaa P Q X Esc (Sem.mark (.extern f) _)
 refine yaa.mark rfl ?_
 rw [h3]
 rcases h4 with ⟨ps, rs, h⟩ | h
 ·rw [h]
  show yaa P Q X Esc (Sem.bind (Extern.BytealgMakeNoZero.makeNoZero ps rs args) fun x => Sem.pure (Next.value x))
  exact yaa.bind (zel hT _ _ _) fun _ => yaa.pure _
 ·rw [h]
  show yaa P Q X Esc (Sem.bind (Extern.AbiNoEscape.same args) fun x => Sem.pure (Next.value x))
  exact yaa.bind (zej _) fun _ => yaa.pure _
theorem yhj {f : Nat} {fn : Func} (hQ : Q.funcs[f]? = some fn) (hn : Nat2 fn) (h2 : (fn.name == "runtime.NumGoroutine") = false) {args : Array Value} {v v' : World} {a : Next} (e : (callFunc f args).run Q v = .ok a v') : ∃ x, a = .value x := by
 obtain ⟨h1, h3, h4⟩ := hn
 change (Sem.program fun p => match p.funcs[f]? with
  |none => stuck "call: no such function"
  |some fn => _).run Q v = _ at e
 simp only [Sem.run, hQ] at e
 rw [h2, h1] at e
 change (Sem.mark (.extern f) _).run Q v = _ at e
 simp only [Sem.run] at e
 rw [h3] at e
 have key : ∀ s : Sem Value, (Sem.bind s fun x => Sem.pure (Next.value x)).run Q v = .ok a v' → ∃ x, a = .value x := fun s e => by
  rw [run_bind] at e
  split at e
  ·simp only [Sem.run, Result.ok.injEq] at e
   exact ⟨_, e.1.symm⟩
  ·cases e
 rcases h4 with ⟨ps, rs, h⟩ | h
 ·rw [h] at e
  exact key _ e
 ·rw [h] at e
  exact key _ e
end Go.Sim

namespace Go.Sim
variable {P Q : Program} {X : Nat → Prop}
variable (hT : P.toTables = Q.toTables)
def EscZ (Z : Nat → Prop) : Next → Prop
 |.enter f _ => Z f
 |_ => False
structure Twin (P Q : Program) (Z : Nat → Prop) : Prop where
 tables : P.toTables = Q.toTables
 size : P.funcs.size = Q.funcs.size
 body : ∀ (f : Nat) fn, Q.funcs[f]? = some fn → Done fn
 bodied : ∀ (f : Nat) fn, ¬ Z f → Q.funcs[f]? = some fn → (fn.body.isNone = false ∧ ∃ fn', P.funcs[f]? = some fn' ∧ fn'.body.isNone = false ∧ (fn'.name == "runtime.NumGoroutine") = false) ∨ (Nat2 fn ∧ P.funcs[f]? = some fn)
 zbody : ∀ (f : Nat) fn, Z f → Q.funcs[f]? = some fn → fn.body.isNone = false
theorem zay {Z : Nat → Prop} (T : Twin P Q Z) (f : Nat) (args : Array Value) : yaa P Q X (EscZ Z) (callFunc f args) := by
 by_cases hnat : ∃ fn, Q.funcs[f]? = some fn ∧ Nat2 fn ∧ P.funcs[f]? = some fn
 ·obtain ⟨fn, hq, hn, hp⟩ := hnat
  exact zdz T.tables hp hq hn (T.body f fn hq).2 args
 intro L w v es h
 show ybd X L (EscZ Z) w es ((Sem.program fun p => match p.funcs[f]? with
  |none => stuck "call: no such function"
  |some fn => _).runT P w es) ((Sem.program fun p => match p.funcs[f]? with
  |none => stuck "call: no such function"
  |some fn => _).run Q v)
 simp only [Sem.run, Sem.runT]
 cases hq : Q.funcs[f]? with
 |none => exact .halt rfl
 |some fn =>
  have h2 := (T.body f fn hq).2
  dsimp only
  by_cases hz : Z f
  ·rw [T.zbody f fn hz hq, h2]
   exact fun _ => .inl hz
  ·rcases T.bodied f fn hz hq with ⟨h1, fn', hp, h3, h4⟩ | ⟨hn, hp⟩
   ·rw [h1, h2, hp]
    dsimp only
    rw [h3, h4]
    exact fun _ => .inr ⟨w, #[], by simp only [Array.append_empty]; rfl, h, .refl X w, by simp⟩
   ·exact absurd ⟨fn, hq, hn, hp⟩ hnat
theorem zaz {Z : Nat → Prop} (T : Twin P Q Z) (r : Value) (n : String) (args : Array Value) : yaa P Q X (EscZ Z) (callMethod r n args) := by
 unfold callMethod
 split
 ·refine zet (by simp only [T.tables]) ?_
  refine yaa.bind (zdu T.tables _ _ _ _) fun x => ?_
  exact zay T _ _
 ·exact zfc T.tables _
 ·exact yaa.halt _
theorem zeo {Esc : Int → Prop} (hT : P.toTables = Q.toTables) : yaa P Q X Esc Instr.panicnil := by
 unfold Instr.panicnil
 show yaa P Q X Esc (Sem.sys .env fun r => _)
 refine yaa.sys (fun os => ⟨_, rfl⟩) fun r => ?_
 cases r <;> first | exact yaa.halt _ | skip
 exact zet (by simp only [hT]) (yaa.pure _)
theorem zen {Esc : Value → Prop} (hT : P.toTables = Q.toTables) (x : Value) : yaa P Q X Esc (Instr.panic x) := by
 unfold Instr.panic
 split
 ·exact yaa.halt _
 ·refine yaa.bind (zeo hT) fun n => ?_
  split
  ·exact yaa.halt _
  ·exact zfc hT _
 ·exact yaa.halt _
theorem zde (hT : P.toTables = Q.toTables) (n : Nat) : ∀ a acc, Sim P Q X (loadBytes a acc n) := by
 induction n with
 |zero => exact fun a acc => yaa.pure _
 |succ n ih =>
  intro a acc
  unfold loadBytes
  (repeat' first
  |exact yaa.pure _
  |exact yaa.halt _
  |with_reducible first | assumption | apply ih | apply zdc
  |refine yaa.bind ?_ (fun _ => ?_)
  |split
  |dsimp only)
theorem bind_never {α β : Type} {Esc : β → Prop} {s : Sem α} {f : α → Sem β} (h : Sim P Q X s) (hn : ∀ v a v', s.run Q v ≠ .ok a v') : yaa P Q X Esc (s.bind f) := by
 intro L w v es hR hL
 have h1 := h L w v es hR
 have h2 := hn v
 rw [run_bind] at hL ⊢
 rw [ydz]
 generalize s.run Q v = r at h1 hL h2
 cases r with
 |ok a v' => exact absurd rfl (h2 a v')
 |halt y v' =>
  refine ⟨(h1 hL).1, fun z hz => ?_⟩
  obtain ⟨w', new, e, hR', hs, hn⟩ := (h1 hL).2 z hz
  rw [e]
  exact ⟨w', new, rfl, hR', hs, hn⟩
theorem ykk {α β : Type} {s : Sem α} {f : α → Sem β} (h : ∀ a v b v', (f a).run Q v ≠ .ok b v') : ∀ v b v', (s.bind f).run Q v ≠ .ok b v' := by
 intro v b v' e
 rw [run_bind] at e
 split at e
 ·exact h _ _ _ _ e
 ·cases e
theorem yjq {α : Type} (x : RuntimeError) : ∀ v a v', (runtimePanic x : Sem α).run Q v ≠ .ok a v' := by
 unfold runtimePanic
 refine ykk fun p => ?_
 dsimp only
 split <;> first | (intro v a v' e; cases e; done) | exact ykk fun _ => ykk fun _ => fun v a v' e => by cases e
theorem zgl {Esc : Value → Prop} (hT : P.toTables = Q.toTables) (ts : Array TypeId) (t : TypeId) (x : Array Value) : yaa P Q X Esc (Builtin.unsafeString_ ts t x) := by
 have tail : ∀ (a : Addr) (pt : TypeId) (n : Int), ¬ n = 0 → ¬ n < 0 → yaa P Q X Esc (do
   if ← variablesAt a (← elemOf pt) n.toNat then do
    let s ← loadBytes a .empty n.toNat
    freeze a n.toNat
    pure (.string s)
   else unsupported (.unsafePointer "String: not so many bytes at ptr")) := by
  intro a pt n h0 h1
  refine yaa.bind (zbp hT _) fun u => ?_
  obtain ⟨m, hm⟩ : ∃ m, n.toNat = m + 1 := ⟨n.toNat - 1, by omega⟩
  rw [hm]
  intro L w v es h
  by_cases hX : X a.block
  ·obtain ⟨y, v', e, hy⟩ := ywo h Q hX u m
   rw [e]
   exact .halt hy
  ·refine (yaa.bind (zgn hT a hX u (m + 1)) fun b => ?_) L w v es h
   split
   ·refine yaa.bind (zde hT _ _ _) fun s => ?_
    intro L w v es h
    show ybd X L Esc w es ((Sem.freeze a (m + 1) (Sem.pure (.string s))).runT P w es) ((Sem.freeze a (m + 1) (Sem.pure (.string s))).run Q v)
    simp only [Sem.run, Sem.runT]
    refine ybd.step (pre := #[]) (w1 := w.freeze a (m + 1)) ?_ (yfn hX _) (by simp)
    simp only [Array.append_empty]
    exact yaa.pure (P := P) (Q := Q) _ _ _ _ _ (h.freeze hX _)
   ·exact yaa.halt _
 unfold Builtin.unsafeString_
 rcases x with ⟨_ | ⟨v, _ | ⟨l, _ | ⟨_, _⟩⟩⟩⟩ <;> first | exact yaa.halt _ | skip
 cases v <;> first | exact yaa.halt _ | skip
 next p =>
 refine yaa.bind (zak l) fun n => ?_
 dsimp only
 cases ts[0]? with
 |none => exact yaa.halt _
 |some pt =>
  have body : ∀ n : Int, ¬ n < 0 → yaa P Q X Esc (match p with
    |none => if n = 0 then pure (.string .empty) else runtimePanic (.error "unsafe.String: ptr is nil and len is not zero")
    |some a => if n = 0 then pure (.string .empty) else do
      if ← variablesAt a (← elemOf pt) n.toNat then do
       let s ← loadBytes a .empty n.toNat
       freeze a n.toNat
       pure (.string s)
      else unsupported (.unsafePointer "String: not so many bytes at ptr")) := by
   intro n hn
   cases p with
   |none =>
    dsimp only
    split
    ·exact yaa.pure _
    ·exact zfc hT _
   |some a =>
    dsimp only
    split
    ·exact yaa.pure _
    ·next h0 => exact tail a pt n h0 hn
  dsimp only
  split
  ·exact bind_never (zfc hT _) (yjq _)
  ·next hn =>
   split
   ·exact yaa.bind (yaa.halt _) fun _ => body _ hn
   ·exact body _ hn
theorem zgo {Esc : Option (Addr × TypeId) → Prop} (r : Nat) : yaa P Q X Esc (viewAt r) := by
 unfold viewAt
 refine zfi (fun _ _ _ => rfl) fun x => ?_
 split
 ·exact yaa.pure _
 ·refine zcs (fun o ho => ?_) fun o => ?_
  ·cases o <;> first | (cases ho; done) | exact .inl rfl
  ·split <;> exact yaa.pure _
theorem zgk {Esc : Value → Prop} (hT : P.toTables = Q.toTables) (ts : Array TypeId) (t : TypeId) (x : Array Value) : yaa P Q X Esc (Builtin.unsafeSliceData_ ts t x) := by
 unfold Builtin.unsafeSliceData_
 rcases x with ⟨_ | ⟨v, _ | ⟨l, _⟩⟩⟩ <;> first | exact yaa.halt _ | skip
 cases v <;> first | exact yaa.halt _ | skip
 next p n c =>
 cases p with
 |none => exact yaa.pure _
 |some a =>
  show yaa P Q X Esc (if c ≠ 0 then _ else _)
  split
  ·exact yaa.pure _
  ·refine yaa.bind (zgo _) fun o => ?_
   split
   ·exact yaa.pure _
   ·refine yaa.bind (zbp hT _) fun e => ?_
    exact yaa.bind (zec _ rfl) fun _ => yaa.pure _
def okB : Builtin → Bool
 |.append | .cap | .clear | .copy | .delete | .len | .max | .min | .panic | .recover | .make | .new | .unsafeString | .unsafeSliceData | .unsafeSizeof => true
 |_ => false
theorem zau {Esc : Next → Prop} (hT : P.toTables = Q.toTables) (b : Builtin) (hb : okB b = true) (ts : Array TypeId) (t : TypeId) (cs : Array Bool) (x : Array Value) : yaa P Q X Esc (builtin b ts t cs x) := by
 cases b <;> first | (cases hb; done) | skip
 all_goals unfold builtin
 ·exact yaa.bind (zae hT _ _ _) fun _ => yaa.pure _
 ·exact yaa.bind (zbb hT _ _ _) fun _ => yaa.pure _
 ·exact yaa.bind (zbe hT _ _ _) fun _ => yaa.pure _
 ·exact yaa.bind (zbk hT _ _ _) fun _ => yaa.pure _
 ·exact yaa.bind (zbo hT _ _ _) fun _ => yaa.pure _
 ·exact yaa.bind (zda hT _ _ _) fun _ => yaa.pure _
 ·exact yaa.halt _
 ·exact yaa.bind (zdr _ _ _) fun _ => yaa.pure _
 ·exact yaa.bind (zdv _ _ _) fun _ => yaa.pure _
 ·exact yaa.halt _
 ·exact yaa.bind (zen hT _) fun _ => yaa.pure _
 ·exact yaa.pure _
 ·exact yaa.bind (zgk hT _ _ _) fun _ => yaa.pure _
 ·exact yaa.bind (zgl hT _ _ _) fun _ => yaa.pure _
 ·exact yaa.bind (zgd hT _) fun _ => yaa.pure _
def okT : Target → Bool
 |.builtin b _ _ _ => okB b
 |.coroexit _ => false
 |_ => true
theorem zcx {Z : Nat → Prop} (T : Twin P Q Z) (t : Target) (ht : okT t = true) (args : Array Value) : yaa P Q X (EscZ Z) (invoke t args) := by
 unfold invoke
 split
 ·exact zfc T.tables _
 ·exact zau T.tables _ ht _ _ _ _
 ·exact zay T _ _
 ·split
  ·exact zaz T _ _ _
  ·exact yaa.halt _
 ·split
  ·refine yaa.bind (zgi T.tables _) fun d => ?_
   exact zaz T _ _ _
  ·exact yaa.halt _
 ·split
  ·exact yaa.bind (zez T.tables _ _ _ _) fun _ => zay T _ _
  ·exact yaa.halt _
 ·exact zgs _ _
 ·exact yaa.halt _
 ·exact yaa.pure _
end Go.Sim

namespace Go.Sim
variable {P Q : Program}
def ybr (_ : Nat) : Prop := False
def yeq (L : Lim) {α : Type} (w : World) (es : Array Event) (r : Result α × Array Event) (res : Result α) : Prop :=
 res.wd.drawn ≤ L.lim → match res with
 |.ok a v' => ∃ w' new, r = (.ok a w', es ++ new) ∧ Rel ybr L w' v' ∧ w'.heap = v'.heap ∧ ycg ybr w w' ∧ ∀ e ∈ new, yif ybr w'.heap.size e
 |.halt x v' => okH x = true ∧ ∀ y, x = .panic y → ∃ w' new, r = (.halt (.panic y) w', es ++ new) ∧ Rel ybr L w' v' ∧ ycg ybr w w' ∧ ∀ e ∈ new, yif ybr w'.heap.size e
def ybg (P Q : Program) {α : Type} (s : Sem α) : Prop :=
 ∀ L w v es, Rel ybr L w v → w.heap = v.heap → yeq L w es (s.runT P w es) (s.run Q v)
theorem yeq.of {L : Lim} {α : Type} {Esc : α → Prop} {w : World} {es : Array Event} {r : Result α × Array Event} {res : Result α} (h : yeq L w es r res) : ybd ybr L Esc w es r res := by
 intro hL
 have h' := h hL
 cases res with
 |ok a v' =>
  obtain ⟨w', new, e, hR, _, hg, hf⟩ := h'
  exact .inr ⟨w', new, e, hR, hg, hf⟩
 |halt x v' => exact h'
theorem yeq.step {L : Lim} {α : Type} {w w1 : World} {es pre : Array Event} {r : Result α × Array Event} {res : Result α} (h : yeq L w1 (es ++ pre) r res) (hs : ycg ybr w w1) (hp : ∀ e ∈ pre, yif ybr w1.heap.size e) : yeq L w es r res := by
 intro hL
 have h' := h hL
 clear h
 cases res with
 |ok b v' =>
  obtain ⟨w', new, e, hR, hh, hs', hn⟩ := h'
  exact ⟨w', pre ++ new, by rw [e, Array.append_assoc], hR, hh, hs.trans hs', fun x hx => (Array.mem_append.1 hx).elim (fun q => (hp x q).mono hs'.size) (hn x)⟩
 |halt x v' =>
  refine ⟨h'.1, fun y hy => ?_⟩
  obtain ⟨w', new, e, hR, hs', hn⟩ := h'.2 y hy
  exact ⟨w', pre ++ new, by rw [e, Array.append_assoc], hR, hs.trans hs', fun x hx => (Array.mem_append.1 hx).elim (fun q => (hp x q).mono hs'.size) (hn x)⟩
theorem ybg.pure {α : Type} (a : α) : ybg P Q (Sem.pure a) := fun L w v es h he _ => ⟨w, #[], by simp [Sem.runT], h, he, .refl _ w, by simp⟩
theorem ybg.halt {α : Type} (x : Halt) (hx : okH x = true := by rfl) : ybg P Q (Sem.halt x : Sem α) := by
 intro L w v es h he _
 exact ⟨hx, fun y e => by subst e; exact ⟨w, #[], by simp [Sem.runT], h, .refl _ w, by simp⟩⟩
theorem ybg.bind {α β : Type} {s : Sem α} {f : α → Sem β} (h : ybg P Q s) (hf : ∀ a, ybg P Q (f a)) : ybg P Q (s.bind f) := by
 intro L w v es hR he hL
 have h1 := h L w v es hR he
 rw [run_bind] at hL ⊢
 rw [ydz]
 generalize s.run Q v = r at h1 hL
 cases r with
 |ok a v' =>
  have hm : v'.drawn ≤ ((f a).run Q v').wd.drawn := yeb Q (f a) v'
  obtain ⟨w', new, e, hR', hh, hs, hn⟩ := h1 (Nat.le_trans hm hL)
  rw [e]
  exact (yeq.step (hf a L w' v' (es ++ new) hR' hh) hs hn) hL
 |halt y v' =>
  refine ⟨(h1 hL).1, fun z hz => ?_⟩
  obtain ⟨w', new, e, hR', hs, hn⟩ := (h1 hL).2 z hz
  rw [e]
  exact ⟨w', new, rfl, hR', hs, hn⟩
theorem ybg.shape {α : Type} {r : Nat} {k : Option (TypeId × Nat) → Sem α} (hk : ∀ x, ybg P Q (k x)) : ybg P Q (shape r >>= k) := by
 intro L w v es h he
 show yeq L w es ((Sem.shape r k).runT P w es) ((Sem.shape r k).run Q v)
 simp only [Sem.run, Sem.runT]
 have : v.shape? r = w.shape? r := by unfold World.shape?; rw [he]
 rw [this]
 exact hk _ _ _ _ _ h he
theorem ybg.getObj {α : Type} {r : Nat} {k : Obj → Sem α} (hk : ∀ x, ybg P Q (k x)) : ybg P Q (getObj r >>= k) := by
 intro L w v es h he
 show yeq L w es ((Sem.getObj r k).runT P w es) ((Sem.getObj r k).run Q v)
 simp only [Sem.run, Sem.runT, ← he]
 cases ho : w.heap[r]? with
 |none => exact fun _ => ⟨rfl, fun y e => by cases e⟩
 |some o =>
  have hlt : r < w.heap.size := (Array.getElem?_eq_some_iff.1 ho).1
  cases o <;> first
   |exact fun _ => ⟨rfl, fun y e => by cases e⟩
   |exact yeq.step (pre := #[_]) (by simpa using hk _ _ _ _ _ h he) (.refl _ w) (by simp only [Array.mem_singleton, forall_eq]; exact ⟨fun h => h, hlt⟩)
theorem ybg.new {α : Type} {o : Obj} {k : Nat → Sem α} (ho : o.odd = false) (hk : ∀ r, ybg P Q (k r)) : ybg P Q (newObj o >>= k) := by
 intro L w v es h he
 show yeq L w es ((Sem.new o k).runT P w es) ((Sem.new o k).run Q v)
 simp only [Sem.run, Sem.runT, h.size]
 refine yeq.step (pre := #[]) (w1 := { w with heap := w.heap.push o }) ?_ (h.grows_push o) (by simp)
 simp only [Array.append_empty]
 exact hk _ _ _ _ _ (h.pushed o ho) (by simp [he])
theorem ybg.freeze {α : Type} {a : Addr} {n : Nat} {k : Unit → Sem α} (hk : ∀ r, ybg P Q (k r)) : ybg P Q (freeze a n >>= k) := by
 intro L w v es h he
 show yeq L w es ((Sem.freeze a n (k ())).runT P w es) ((Sem.freeze a n (k ())).run Q v)
 simp only [Sem.run, Sem.runT]
 refine yeq.step (pre := #[]) (w1 := w.freeze a n) ?_ (yfn (fun h => h) _) (by simp)
 simp only [Array.append_empty]
 exact hk _ _ _ _ _ (h.freeze (fun h => h) _) (by unfold World.freeze; split; exact he; simp [he])
theorem ybg.program {α : Type} {f : Program → Sem α} (e : f P = f Q) (h : ybg P Q (f Q)) : ybg P Q (Go.program >>= f) := by
 intro L w v es hR he
 show yeq L w es ((Sem.program f).runT P w es) ((Sem.program f).run Q v)
 simp only [Sem.run, Sem.runT, e]
 exact h _ _ _ _ hR he
theorem simH_und (hT : P.toTables = Q.toTables) {α : Type} {t : TypeId} {f : TypeDesc → Sem α} (h : ∀ d, ybg P Q (f d)) : ybg P Q (underlying t >>= f) := by
 show ybg P Q (Go.program >>= fun p => (match p.underlying t with | some d => Pure.pure d | none => stuck "no such type" : Sem TypeDesc) >>= f)
 refine ybg.program (by simp only [yff hT]) ?_
 cases hq : Q.underlying t with
 |none => exact ybg.halt _
 |some d => exact h d
theorem simH_info (hT : P.toTables = Q.toTables) (t : TypeId) : ybg P Q (typeInfo t) := by
 unfold typeInfo
 refine ybg.program (by simp only [hT]) ?_
 cases Q.info? t with
 |none => exact ybg.halt _
 |some d => exact ybg.pure _
theorem ytr (hT : P.toTables = Q.toTables) (t : TypeId) : ybg P Q (sizeOf t) := ybg.bind (simH_info hT t) fun _ => ybg.pure _
theorem ywm (r : Nat) : ybg P Q (viewAt r) := by
 unfold viewAt
 refine ybg.shape fun x => ?_
 split
 ·exact ybg.pure _
 ·refine ybg.getObj fun o => ?_
  split <;> exact ybg.pure _
theorem ynj (hT : P.toTables = Q.toTables) (a : Addr) : ybg P Q (Conv.seenAt a) := by
 unfold Conv.seenAt
 refine ybg.bind (ywm _) fun o => ?_
 split
 ·split
  ·exact ybg.pure _
  ·dsimp only
   split
   ·exact ybg.halt _
   ·refine ybg.program (by simp only [ycr hT, ycc hT, yee hT, cab_eq hT]) ?_
    split
    ·refine ybg.shape fun x => ?_
     split
     ·split
      ·exact ybg.halt _
      ·split
       ·exact ybg.pure _
       ·exact ybg.halt _
     ·exact ybg.halt _
    ·exact ybg.halt _
 ·exact ybg.pure _
theorem ytq (r : Nat) : ybg P Q (cellsIn r) := by
 unfold cellsIn
 refine ybg.shape fun x => ?_
 split
 ·exact ybg.pure _
 ·refine ybg.getObj fun o => ?_
  split <;> exact ybg.pure _
theorem ylg (hT : P.toTables = Q.toTables) (a : Addr) (u : TypeId) (n : Nat) : ybg P Q (variablesAt a u n) := by
 unfold variablesAt
 refine ybg.program ?_ ?_
 ·simp only [ycc hT, ycr hT, lies_eq hT]
 ·refine ybg.shape fun x => ?_
  split <;> exact ybg.pure _
theorem holds_eq (hT : P.toTables = Q.toTables) (d : Nat) : ∀ t, P.holdsStoodIn d t = Q.holdsStoodIn d t := by
 induction d with
 |zero => exact fun _ => rfl
 |succ d ih =>
  intro t
  unfold Program.holdsStoodIn
  simp only [yvb hT, yff hT, ih]
theorem yfs (hT : P.toTables = Q.toTables) (src dst : TypeId) (x : Value) : ybg P Q (Conv.unsafePointer src dst x) := by
 unfold Conv.unsafePointer
 refine simH_und hT fun d => simH_und hT fun e => ?_
 split
 ·exact ybg.pure _
 ·refine ybg.bind (ynj hT _) fun s => ybg.bind (ytq _) fun c => ybg.bind (ytr hT _) fun n => ?_
  cases c with
  |none =>
   dsimp only
   split
   ·exact ybg.new rfl fun _ => ybg.pure _
   ·exact ybg.pure _
  |some c =>
   dsimp only
   split
   ·exact ybg.new rfl fun _ => ybg.pure _
   ·exact ybg.pure _
 ·exact ybg.pure _
 ·refine ybg.bind (ynj hT _) fun s => ybg.bind (ytr hT _) fun n => ?_
  refine ybg.bind (ylg hT _ _ _) fun b => ?_
  split
  ·exact ybg.pure _
  ·refine ybg.shape fun x => ?_
   dsimp only
   split
   ·refine ybg.program ?_ (ybg.program ?_ ?_)
    ·simp only [holds_eq hT]
    ·simp only [ycc hT]
    ·split
     ·exact ybg.bind (ybg.halt _) fun _ => ybg.new rfl fun _ => ybg.pure _
     ·exact ybg.new rfl fun _ => ybg.pure _
   ·exact ybg.bind (ybg.halt _) fun _ => ybg.new rfl fun _ => ybg.pure _
 ·exact ybg.pure _
 ·exact ybg.pure _
 ·unfold asNumber
  exact ybg.new rfl fun _ => ybg.pure _
 ·exact ybg.halt _
 ·exact ybg.halt _
 ·exact ybg.halt _
 ·exact ybg.halt _
theorem yom (a : Addr) : ybg P Q (markStringish a) := by
 unfold markStringish
 refine ybg.shape fun x => ?_
 split
 ·exact ybg.freeze (k := fun x => Sem.pure x) fun _ => ybg.pure _
 ·exact ybg.pure _
theorem yce {X : Nat → Prop} {L : Lim} {w v : World} {es : Array Event} {α : Type} {Esc : α → Prop} (hT : P.toTables = Q.toTables) {t : TypeId} {f : TypeDesc → Sem α} (h : ∀ d, Q.underlying t = some d → ybd X L Esc w es ((f d).runT P w es) ((f d).run Q v)) : ybd X L Esc w es ((underlying t >>= f).runT P w es) ((underlying t >>= f).run Q v) := by
 show ybd X L Esc w es ((Sem.program fun p => ((match p.underlying t with | some d => Pure.pure d | none => stuck "no such type" : Sem TypeDesc) >>= f)).runT P w es) ((Sem.program fun p => ((match p.underlying t with | some d => Pure.pure d | none => stuck "no such type" : Sem TypeDesc) >>= f)).run Q v)
 simp only [Sem.run, Sem.runT, yff hT]
 cases hq : Q.underlying t with
 |none => exact .halt rfl
 |some d => exact h d hq
theorem yqn (hT : P.toTables = Q.toTables) {L : Lim} {w v : World} {es : Array Event} {Esc : Value → Prop} (h : Rel ybr L w v) (he : w.heap = v.heap) (src dst : TypeId) (x : Value) : ybd ybr L Esc w es ((convert src dst x).runT P w es) ((convert src dst x).run Q v) := by
 unfold convert
 refine yce hT fun d hd => yce hT fun e hE => ?_
 split
 ·exact yaa.pure _ _ _ _ _ h
 ·exact yaa.pure _ _ _ _ _ h
 ·exact zci _ _ _ _ _ _ _ h
 ·exact zch _ _ _ _ _ _ _ h
 ·exact zbh _ _ _ _ _ _ _ _ h
 ·exact yaa.pure _ _ _ _ _ h
 ·exact yaa.pure _ _ _ _ _ h
 ·refine yce hT fun _ _ => ?_
  split
  ·exact zfy _ _ _ _ _ _ h
  ·exact zfz _ _ _ _ _ _ h
  ·exact yaa.halt _ rfl _ _ _ _ h
 ·refine yce hT fun _ _ => ?_
  split
  ·exact (ybg.bind (yom _) (fun _ => ybg.pure _) _ _ _ _ h he).of
  ·exact yaa.halt _ rfl _ _ _ _ h
 ·refine yce hT fun _ _ => ?_
  split
  ·exact zaw hT _ _ _ _ _ h
  ·exact zfb hT _ _ _ _ _ h
  ·exact yaa.halt _ rfl _ _ _ _ h
 ·exact (yfs hT _ _ _ _ _ _ _ h he).of
 ·exact (yfs hT _ _ _ _ _ _ _ h he).of
 ·exact yaa.halt _ rfl _ _ _ _ h
 ·exact yaa.halt _ rfl _ _ _ _ h
end Go.Sim

namespace Go.Sim
variable {P Q : Program} {X : Nat → Prop}
def ydf (Q : Program) : Op → Bool
 |.convert src dst _ => !(Q.underlying src matches some .unsafePointer) && !(Q.underlying dst matches some .unsafePointer) && !((Q.underlying dst matches some (.slice _)) && src == dst)
 |.makeChan .. | .send .. | .recv .. | .select .. | .go .. | .defer .. => false
 |.call c => match c.callee with
  |.builtin b => okB b
  |_ => true
 |_ => true
def okG (Q : Program) : Op → Bool
 |.convert .. => true
 |o => ydf Q o
theorem okG_of {Q : Program} {o : Op} (h : ydf Q o = true) : okG Q o = true := by
 cases o <;> first | rfl | exact h
theorem bind_pure' {α : Type} (s : Sem α) : s.bind Sem.pure = s := by
 induction s with
 |pure a => rfl
 |halt h => rfl
 |load m a k ih => exact congrArg (Sem.load m a) (funext ih)
 |store m a v k ih => exact congrArg (Sem.store m a v) ih
 |new o k ih => exact congrArg (Sem.new o) (funext ih)
 |shape r k ih => exact congrArg (Sem.shape r) (funext ih)
 |freeze a n k ih => exact congrArg (Sem.freeze a n) ih
 |frozen a k ih => exact congrArg (Sem.frozen a) (funext ih)
 |getObj r k ih => exact congrArg (Sem.getObj r) (funext ih)
 |setObj r o k ih => exact congrArg (Sem.setObj r o) ih
 |choose q k ih => exact congrArg (Sem.choose q) (funext ih)
 |sys c k ih => exact congrArg (Sem.sys c) (funext ih)
 |program k ih => exact congrArg Sem.program (funext ih)
 |mark m k ih => exact congrArg (Sem.mark m) ih
theorem yuo {α β γ : Type} (s : Sem α) (f : α → Sem β) (g : β → Sem γ) : (s.bind f).bind g = s.bind fun a => (f a).bind g := by
 induction s with
 |pure a => rfl
 |halt h => rfl
 |load m a k ih => exact congrArg (Sem.load m a) (funext ih)
 |store m a v k ih => exact congrArg (Sem.store m a v) ih
 |new o k ih => exact congrArg (Sem.new o) (funext ih)
 |shape r k ih => exact congrArg (Sem.shape r) (funext ih)
 |freeze a n k ih => exact congrArg (Sem.freeze a n) ih
 |frozen a k ih => exact congrArg (Sem.frozen a) (funext ih)
 |getObj r k ih => exact congrArg (Sem.getObj r) (funext ih)
 |setObj r o k ih => exact congrArg (Sem.setObj r o) ih
 |choose q k ih => exact congrArg (Sem.choose q) (funext ih)
 |sys c k ih => exact congrArg (Sem.sys c) (funext ih)
 |program k ih => exact congrArg Sem.program (funext ih)
 |mark m k ih => exact congrArg (Sem.mark m) ih
theorem lawful : LawfulMonad Sem := LawfulMonad.mk' Sem (fun x => bind_pure' x) (fun _ _ => rfl) (fun x f g => yuo x f g)
theorem zdo {α β : Type} {Esc : Array β → Prop} {f : α → Sem β} (hf : ∀ a, Sim P Q X (f a)) (l : Array α) : yaa P Q X Esc (l.mapM f) := by
 haveI := lawful
 rw [Array.mapM_eq_mapM_toList]
 exact yaa.bind (zdp hf _) fun _ => yaa.pure _
theorem zas {Esc : Value → Prop} (hT : P.toTables = Q.toTables) (t : TypeId) (x : Array (Nat × Value)) : yaa P Q X Esc (Instr.build t x) := by
 unfold Instr.build
 refine yaa.bind (zgt hT _) fun z => ?_
 dsimp only
 refine yaa.bind (zgi hT _) fun d => ?_
 split
 ·refine yaa.bind (zdo (fun f => yaa.bind (zfl hT _) fun _ => yaa.pure _) _) fun ps => ?_
  (repeat' first
  |exact yaa.pure _
  |exact yaa.halt _
  |with_reducible first | assumption | apply zgi | apply zgt | apply zfl
  |refine yaa.bind ?_ (fun _ => ?_)
  |split
  |dsimp only)
 ·(repeat' first
  |exact yaa.pure _
  |exact yaa.halt _
  |with_reducible first | assumption | apply zgi | apply zgt | apply zfl
  |refine yaa.bind ?_ (fun _ => ?_)
  |split
  |dsimp only)
 ·(repeat' first
  |exact yaa.pure _
  |exact yaa.halt _
  |with_reducible first | assumption | apply zgi | apply zgt | apply zfl
  |refine yaa.bind ?_ (fun _ => ?_)
  |split
  |dsimp only)
theorem zba {Z : Nat → Prop} (T : Twin P Q Z) (ρ : Operand → Value) (c : Call) (t : TypeId) (hc : ydf Q (.call c) = true) : yaa P Q X (EscZ Z) (do let d ← resolve ρ c t; invoke d.target d.args) := by
 unfold resolve
 dsimp only
 split
 ·next b e =>
  simp only [ydf, e] at hc
  exact zeu (zcx T (.builtin b _ _ _) hc _)
 ·(refine zeu ?_; refine zcx T _ ?_ _; rfl)
 ·unfold Deferred.ofValue
  split
  ·(refine zeu ?_; refine zcx T _ ?_ _; rfl)
  ·(refine zeu ?_; refine zcx T _ ?_ _; rfl)
  ·exact yaa.halt _
end Go.Sim

namespace Go.Sim
variable {P Q : Program} {X : Nat → Prop}
theorem zag {Esc : Value → Prop} (hT : P.toTables = Q.toTables) (t : TypeId) (x : Value) : yaa P Q X Esc (Instr.arrayAt t x) := by
 unfold Instr.arrayAt
 (repeat' first
  |exact yaa.pure _
  |exact yaa.halt _
  |with_reducible first | assumption | apply zgi | apply zfc
  |refine yaa.bind ?_ (fun _ => ?_)
  |split
  |dsimp only)
theorem zgq {Esc : Value → Prop} (g : Nat) : yaa P Q X Esc (Instr.waits g) := zfi (fun _ _ _ => rfl) fun x => yaa.pure _
theorem zex {Esc : Unit → Prop} (g : Nat) : yaa P Q X Esc (Instr.ready g) := by
 unfold Instr.ready
 refine zfi (fun _ _ _ => rfl) fun x => ?_
 split
 ·exact yaa.pure _
 ·refine zcs (fun o ho => by cases o <;> first | (cases ho; done) | exact .inl rfl | exact .inr fun v => ⟨_, _, rfl, (by rfl)⟩) fun o => ?_
  split
  ·exact yaa.setObj rfl (yaa.pure _)
  ·exact yaa.halt _
theorem zei {Esc : Next → Prop} (hT : P.toTables = Q.toTables) (ρ : Operand → Value) (o : Oper) (x : Operand) (ho : o.op = .nilCheck x) : yaa P Q X Esc (execOp ρ o) := by
 unfold execOp
 rw [ho]
 dsimp only
 split
 ·exact zfc hT _
 ·exact zfc hT _
 ·exact zfc hT _
 ·split
  ·exact zfc hT _
  ·refine zet (by simp only [hT]) ?_
   refine yaa.bind (zeh hT _ _ _ _) fun b => ?_
   split
   ·exact yaa.halt _
   ·exact yaa.pure _
  ·exact yaa.pure _
 ·exact yaa.pure _
theorem zbx {Esc : Next → Prop} (hT : P.toTables = Q.toTables) (ρ : Operand → Value) (o : Oper) (h : ydf Q o.op = true) (hcall : ∀ c, o.op = .call c → yaa P Q X Esc (do let d ← resolve ρ c o.type; invoke d.target d.args)) : yaa P Q X Esc (execOp ρ o) := by
 cases ho : o.op
 case nilCheck x => exact zei hT ρ o x ho
 all_goals (rw [ho] at h)
 all_goals (unfold execOp; rw [ho]; dsimp only)
 case move => exact yaa.pure _
 case assign => exact yaa.pure _
 case pick => exact yaa.bind (zaj _) fun _ => yaa.pure _
 case alloc => exact yaa.bind (zad hT _ _ _) fun _ => yaa.pure _
 case box => exact yaa.bind (zar _ _) fun _ => yaa.pure _
 case build => exact yaa.bind (zas hT _ _) fun _ => yaa.pure _
 case buildSlice => exact yaa.bind (zat hT _ _ _) fun _ => yaa.pure _
 case load => exact yaa.bind (zdd hT _ _) fun _ => yaa.pure _
 case store => exact yaa.bind (zfu hT _ _ _) fun _ => yaa.pure _
 case ready => exact yaa.bind (zex _) fun _ => yaa.pure _
 case waits => exact yaa.bind (zgq _) fun _ => yaa.pure _
 case binOp => exact yaa.bind (yaa.bind (zbs hT _ _ _ _ _ _) fun _ => zap hT _ _ _ _) fun _ => yaa.pure _
 case unOp => exact yaa.bind (zgg _ _) fun _ => yaa.pure _
 case convert src dst x =>
  refine yaa.bind (zbj hT _ _ _ ?_ ?_ ?_) fun _ => yaa.pure _
  ·intro e; simp [ydf, e] at h
  ·intro e; simp [ydf, e] at h
  ·intro e he hh; simp [ydf, he, hh] at h
 case sliceToArrayPointer => exact yaa.bind (zag hT _ _) fun _ => yaa.pure _
 case makeInterface => exact yaa.bind (zdk hT _ _) fun _ => yaa.pure _
 case makeFunc => exact yaa.bind (zdj _ _ _) fun _ => yaa.pure _
 case makeMap => exact yaa.bind (zdl hT _ _) fun _ => yaa.pure _
 case makeSlice => exact yaa.bind (zdm hT _ _ _) fun _ => yaa.pure _
 case slice => exact yaa.bind (zfn hT _ _ _ _ _) fun _ => yaa.pure _
 case fieldAddr => exact yaa.bind (zca hT _ _ _) fun _ => yaa.pure _
 case field => exact yaa.bind (zbz hT _ _ _) fun _ => yaa.pure _
 case indexAddr => exact yaa.bind (zcu hT _ _ _) fun _ => yaa.pure _
 case index => exact yaa.bind (zct hT _ _ _) fun _ => yaa.pure _
 case lookup => exact yaa.bind (zdi hT _ _ _ _) fun _ => yaa.pure _
 case mapUpdate => exact yaa.bind (zdq hT _ _ _ _) fun _ => yaa.pure _
 case insert => exact yaa.bind (zdq hT _ _ _ _) fun _ => yaa.pure _
 case mapEntry => exact yaa.bind (zdn hT _ _ _) fun _ => yaa.pure _
 case entryStore => exact yaa.bind (zbr _ _ _ _) fun _ => yaa.pure _
 case range => exact yaa.bind (zew hT _ _) fun _ => yaa.pure _
 case next => exact yaa.bind (zeg hT _ _ _) fun _ => yaa.pure _
 case entry => exact yaa.bind (zbq _) fun _ => yaa.pure _
 case typeAssert => exact yaa.bind (zgc hT _ _ _ _) fun _ => yaa.pure _
 case extract => exact yaa.bind (zby _ _) fun _ => yaa.pure _
 case call c => exact hcall c ho
 case panic => exact yaa.bind (zen hT _) fun _ => yaa.pure _
 all_goals (simp [ydf] at h)
theorem zbw {Z : Nat → Prop} (T : Twin P Q Z) (ρ : Operand → Value) (o : Oper) (h : ydf Q o.op = true) : yaa P Q X (EscZ Z) (execOp ρ o) :=
 zbx T.tables ρ o h fun c hc => zba T _ _ _ (by rw [hc] at h; exact h)
theorem ybd.bind {L : Lim} {w v : World} {es : Array Event} {α β : Type} {Esc : β → Prop} {s : Sem α} {f : α → Sem β} (h1 : ybd X L (fun _ => False) w es (s.runT P w es) (s.run Q v)) (hf : ∀ a, yaa P Q X Esc (f a)) : ybd X L Esc w es ((s.bind f).runT P w es) ((s.bind f).run Q v) := by
 intro hL
 rw [run_bind] at hL ⊢
 rw [ydz]
 generalize s.run Q v = r at h1 hL
 cases r with
 |ok a v' =>
  have hm : v'.drawn ≤ ((f a).run Q v').wd.drawn := yeb Q (f a) v'
  rcases h1 (Nat.le_trans hm hL) with h1 | ⟨w', new, e, hR', hs, hn⟩
  ·exact h1.elim
  rw [e]
  exact (ybd.step (hf a L w' v' (es ++ new) hR') hs hn) hL
 |halt y v' =>
  refine ⟨(h1 hL).1, fun z hz => ?_⟩
  obtain ⟨w', new, e, hR', hs, hn⟩ := (h1 hL).2 z hz
  rw [e]
  exact ⟨w', new, rfl, hR', hs, hn⟩
theorem ypf (hT : P.toTables = Q.toTables) {L : Lim} {w v : World} {es : Array Event} {Esc : Next → Prop} (ρ : Operand → Value) (o : Oper) {src dst : TypeId} {x : Operand} (ho : o.op = .convert src dst x) (hR : Rel ybr L w v) (he : w.heap = v.heap) : ybd ybr L Esc w es ((execOp ρ o).runT P w es) ((execOp ρ o).run Q v) := by
 unfold execOp
 rw [ho]
 dsimp only
 exact ybd.bind (yqn hT hR he _ _ _) fun _ => yaa.pure _
theorem yss {Q : Program} {o : Op} (h : okG Q o = true) : ydf Q o = true ∨ ∃ src dst x, o = .convert src dst x := by
 cases o <;> first | exact .inr ⟨_, _, _, rfl⟩ | exact .inl h
theorem ykw {Z : Nat → Prop} (T : Twin P Q Z) {L : Lim} {w v : World} {es : Array Event} (ρ : Operand → Value) (o : Oper) (h : okG Q o.op = true) (hR : Rel ybr L w v) (he : w.heap = v.heap) : ybd ybr L (EscZ Z) w es ((execOp ρ o).runT P w es) ((execOp ρ o).run Q v) := by
 rcases yss h with h | ⟨src, dst, x, ho⟩
 ·exact zbw T ρ o h L w v es hR
 ·exact ypf T.tables ρ o ho hR he
end Go.Sim

namespace Go.Sim
variable {P Q : Program} {X : Nat → Prop}
def Tame (v : World) : Prop := ∀ (b : Nat) o, v.heap[b]? = some o → ¬ Wild o
theorem Rel.tame {L : Lim} {w v : World} (h : Rel X L w v) : Tame v := fun _ _ e => h.nov e
def yao (Q : Program) {α : Type} (φ : α → Prop) (s : Sem α) : Prop := ∀ v a v', s.run Q v = .ok a v' → φ a
theorem yao.pure {α : Type} {φ : α → Prop} {a : α} (h : φ a) : yao Q φ (Sem.pure a) := fun v b v' e => by
 simp only [Sem.run, Result.ok.injEq] at e
 exact e.1 ▸ h
theorem yao.halt {α : Type} {φ : α → Prop} (x : Halt) : yao Q φ (Sem.halt x : Sem α) := fun v b v' e => by simp [Sem.run] at e
theorem yao.bind {α β : Type} {φ : β → Prop} {s : Sem α} {f : α → Sem β} (h : ∀ a, yao Q φ (f a)) : yao Q φ (s.bind f) := fun v b v' e => by
 rw [run_bind] at e
 split at e
 ·exact h _ _ _ _ e
 ·cases e
def okN : Next → Prop
 |.value _ | .skip | .enter _ _ | .recover => True
 |_ => False
def bodied (Q : Program) : Prop := ∀ (f : Nat) fn, Q.funcs[f]? = some fn → Done fn
theorem ykg {s : Sem Value} : yao Q okN (do pure (.value (← s))) := yao.bind fun _ => yao.pure trivial
theorem ysc {s : Sem Unit} : yao Q okN (do s; pure .skip) := yao.bind fun _ => yao.pure trivial
theorem ygj (hb : bodied Q) (f : Nat) (args : Array Value) : yao Q okN (callFunc f args) := by
 intro v a v' e
 cases hq : Q.funcs[f]? with
 |none =>
  change (Sem.program fun p => match p.funcs[f]? with
   |none => stuck "call: no such function"
   |some fn => _).run Q v = _ at e
  simp only [Sem.run] at e
  rw [hq] at e
  cases e
 |some fn =>
  obtain ⟨h1 | hn, h2⟩ := hb f fn hq
  ·change (Sem.program fun p => match p.funcs[f]? with
    |none => stuck "call: no such function"
    |some fn => _).run Q v = _ at e
   simp only [Sem.run] at e
   rw [hq] at e
   dsimp only at e
   rw [h1, h2] at e
   cases e
   trivial
  ·obtain ⟨x, rfl⟩ := yhj hq hn h2 e
   trivial
theorem yaj {α : Type} {φ : α → Prop} (e : RuntimeError) : yao Q φ (runtimePanic e : Sem α) := by
 unfold runtimePanic
 refine yao.bind fun _ => ?_
 dsimp only
 split <;> first | exact yao.halt _ | exact yao.bind fun _ => yao.bind fun _ => yao.halt _
theorem yhd (hb : bodied Q) (r : Value) (n : String) (args : Array Value) : yao Q okN (callMethod r n args) := by
 unfold callMethod
 split
 ·exact yao.bind fun _ => yao.bind fun x => ygj hb _ _
 ·exact yaj _
 ·exact yao.halt _
theorem yku (b : Builtin) (h : okB b = true) (ts : Array TypeId) (t : TypeId) (cs : Array Bool) (x : Array Value) : yao Q okN (builtin b ts t cs x) := by
 cases b <;> first | (cases h; done) | skip
 all_goals unfold builtin
 all_goals first | exact ykg | exact yao.halt _ | exact yao.pure (φ := okN) trivial | exact yao.bind fun _ => yao.pure trivial
theorem ypo {v : World} (h : Tame v) (l : Nat) (x : Array Value) (a : Next) (v' : World) : (Instr.yield l x).run Q v ≠ .ok a v' := by
 intro e
 unfold Instr.yield at e
 change ((Instr.getLoop l).bind _).run Q v = _ at e
 rw [run_bind] at e
 have : ∃ y u, (Instr.getLoop l).run Q v = .halt y u := by
  unfold Instr.getLoop
  change ∃ y u, (Sem.getObj l fun o => _).run Q v = _
  simp only [Sem.run]
  cases hl : v.heap[l]? with
  |none => exact ⟨_, _, rfl⟩
  |some o =>
   have := h l o hl
   cases o with
   |loop r => exact absurd (.inr ⟨_, rfl⟩) this
   |_ => exact ⟨_, _, rfl⟩
 obtain ⟨y, u, hh⟩ := this
 rw [hh] at e
 cases e
theorem ygn (hb : bodied Q) {v : World} (h : Tame v) (t : Target) (ht : okT t = true) (args : Array Value) (a : Next) (v' : World) (e : (invoke t args).run Q v = .ok a v') : okN a := by
 unfold invoke at e
 split at e
 ·exact yaj _ _ _ _ e
 ·exact yku _ ht _ _ _ _ _ _ _ e
 ·exact ygj hb _ _ _ _ _ e
 ·split at e
  ·exact yhd hb _ _ _ _ _ _ e
  ·exact yao.halt _ _ _ _ e
 ·split at e
  ·exact yao.bind (fun d => yhd hb _ _ _) _ _ _ e
  ·exact yao.halt _ _ _ _ e
 ·split at e
  ·exact yao.bind (fun d => ygj hb _ _) _ _ _ e
  ·exact yao.halt _ _ _ _ e
 ·exact absurd e (ypo h _ _ _ _)
 ·exact yao.halt _ _ _ _ e
 ·cases ht
theorem pb {d : Deferred} {v v' : World} {a : Next} (e : ((pure d : Sem Deferred) >>= fun d => invoke d.target d.args).run Q v = .ok a v') : (invoke d.target d.args).run Q v = .ok a v' := e
theorem yuw (hb : bodied Q) {v : World} (h : Tame v) (ρ : Operand → Value) (o : Oper) (ho : okG Q o.op = true) (a : Next) (v' : World) (e : (execOp ρ o).run Q v = .ok a v') : okN a := by
 unfold execOp at e
 dsimp only at e
 split at e
 all_goals first | exact ykg _ _ _ e | exact ysc _ _ _ e | exact yao.bind (fun _ => yao.pure trivial) _ _ _ e | exact yao.pure trivial _ _ _ e | (rename_i hop; rw [hop] at ho; cases ho; done) | skip
 ·split at e
  all_goals first | exact yaj _ _ _ _ e | exact yao.pure trivial _ _ _ e | skip
  split at e
  all_goals first | exact yaj _ _ _ _ e | exact yao.pure trivial _ _ _ e | skip
  exact yao.bind (fun _ => yao.bind fun _ => by split <;> first | exact yao.bind (fun _ => yao.pure trivial) | exact yao.pure trivial) _ _ _ e
 ·next c hop =>
  rw [hop] at ho
  revert e
  unfold resolve
  dsimp only
  split
  ·next b eb =>
   simp only [okG, ydf, eb] at ho
   exact fun e => ygn hb h (.builtin b _ _ _) ho _ _ _ (pb e)
  ·exact fun e => ygn hb h _ (by rfl) _ _ _ (pb e)
  ·unfold Deferred.ofValue
   split
   ·exact fun e => ygn hb h _ (by rfl) _ _ _ (pb e)
   ·exact fun e => ygn hb h _ (by rfl) _ _ _ (pb e)
   ·exact fun e => yao.halt _ _ _ _ e
end Go.Sim

namespace Go.Sim
variable {P Q : Program} {X : Nat → Prop} {ok : Op → Bool}
theorem zfa {Esc : Value → Prop} (hT : P.toTables = Q.toTables) (fn : Func) (tmps : Array Value) : yaa P Q X Esc (results fn tmps) := by
 unfold results
 refine yaa.bind (zdo (fun r => ?_) _) fun vs => yaa.pure _
 cases r with
 |tmp t => exact yaa.pure _
 |cell a t => exact yaa.bind (zah hT _) fun _ => zdh hT _ _
def yaz (ok : Op → Bool) : Code → Bool
 |.region _ ops _ => ops.all fun o => ok o.op
 |.seq a b | .cond _ a b => yaz ok a && yaz ok b
 |.block _ b | .loop b | .scope b => yaz ok b
 |.rangeFunc .. => false
 |_ => true
def yik (ok : Op → Bool) : Item → Bool
 |.code c | .inLoop c | .inScope c => yaz ok c
 |.inRegion ops _ => ops.all fun o => ok o.op
 |.inBlock _ => true
 |_ => false
def ybh (ok : Op → Bool) (l : List Item) : Bool := l.all (yik ok)
structure ykc (Q : Program) (ok : Op → Bool) (E : Nat → Prop) (fr : Frame) : Prop where
 items : ybh ok fr.todo = true
 defers : fr.defers = []
 kind : fr.kind = .normal
 round : fr.roundOf = none
 fn : ¬ E fr.fn
 inn : fr.fn < Q.funcs.size
def gor (fr : Frame) (cs : List Frame) : Goroutine := { frame := fr, callers := cs, status := .running, dying := none }
theorem ymt {id : Nat} : ∀ {k k' : List Item}, ybh ok k = true → exitTo id k = some k' → ybh ok k' = true
 |[], _, _, h => by simp [exitTo] at h
 |i :: k, k', ho, h => by
  simp only [ybh, List.all_cons, Bool.and_eq_true] at ho
  have hk : ybh ok k = true := ho.2
  cases i <;> simp only [exitTo] at h <;> first | exact ymt hk h | skip
  split at h
  ·cases h; exact hk
  ·exact ymt hk h
theorem yhl {l : Nat} : ∀ {c c' : Code}, yaz ok c = true → findLabel c l = some c' → yaz ok c' = true
 |.seq a b, c', ho, h => by
  simp only [yaz, Bool.and_eq_true] at ho
  simp only [findLabel] at h
  split at h
  ·next r e =>
   cases h
   simp only [yaz, Bool.and_eq_true]
   exact ⟨yhl ho.1 e, ho.2⟩
  ·exact yhl ho.2 h
 |.label l', c', ho, h => by
  simp only [findLabel] at h
  split at h
  ·cases h; rfl
  ·cases h
 |.skip, _, _, h | .region .., _, _, h | .cond .., _, _, h | .block .., _, _, h | .loop _, _, _, h | .rangeFunc .., _, _, h | .exit _, _, _, h | .scope _, _, _, h | .goto _, _, _, h | .ret, _, _, h | .refuse _, _, _, h => by simp [findLabel] at h
theorem ymu {l : Nat} : ∀ {k k' : List Item}, ybh ok k = true → gotoIn l k = some k' → ybh ok k' = true
 |[], _, _, h => by simp [gotoIn] at h
 |i :: k, k', ho, h => by
  have ho' := ho
  simp only [ybh, List.all_cons, Bool.and_eq_true] at ho
  have hk : ybh ok k = true := ho.2
  cases i <;> simp only [gotoIn] at h <;> first | exact ymu hk h | skip
  split at h
  ·next r e =>
   cases h
   simp only [ybh, List.all_cons, Bool.and_eq_true]
   exact ⟨yhl ho.1 e, ho.1, hk⟩
  ·exact ymu hk h
theorem yjs {E : Nat → Prop} {fr : Frame} (h : ykc Q ok E fr) (v : Value) : ykc Q ok E (fr.finish v) := by
 obtain ⟨h1, h2, h3, h4, h5, h6⟩ := h
 unfold Frame.finish
 split
 ·next ops i rest k e =>
  rw [e] at h1
  exact ⟨h1, h2, h3, h4, h5, h6⟩
 all_goals first | (next e => rw [e] at h1; simp [ybh, yik] at h1; done) | (next e => exact ⟨h1, h2, h3, h4, h5, h6⟩)
theorem yit (fr : Frame) (v : Value) : (fr.finish v).mode = fr.mode := by
 unfold Frame.finish
 repeat' split
 all_goals rfl
theorem mem_seen (p : Program) (fn : FuncId) (es : Array Event) (e : Event) (h : e ∈ seen p fn es) : e ∈ es := by
 unfold seen at h
 dsimp only at h
 rw [← Array.foldl_toList] at h
 have key : ∀ (l : List Event) (q : Bool) (kept : Array Event), e ∈ (l.foldl (fun (x : Bool × Array Event) (e : Event) => match e.loc with
   |.mark (.extern f) => ((p.funcs[f]?).any (·.norace), x.2)
   |_ => (x.1, if x.1 && !e.sync then x.2 else x.2.push e)) (q, kept)).2 → e ∈ kept ∨ e ∈ l := by
  intro l
  induction l with
  |nil => exact fun q kept h => .inl h
  |cons x l ih =>
   intro q kept h
   rw [List.foldl_cons] at h
   split at h
   ·rcases ih _ _ h with q | q
    ·exact .inl q
    ·exact .inr (List.mem_cons_of_mem _ q)
   ·rcases ih _ _ h with q | q
    ·split at q
     ·exact .inl q
     ·rcases Array.mem_push.1 q with q | q
      ·exact .inl q
      ·exact .inr (q ▸ List.mem_cons_self ..)
    ·exact .inr (List.mem_cons_of_mem _ q)
 rcases key es.toList _ _ h with q | q
 ·simp at q
 ·exact Array.mem_toList_iff.1 q
theorem yfp {α : Type} (P : Program) (s : Sem α) : ∀ (w : World) (es : Array Event), (s.runT P w es).1 = s.run P w := by
 induction s with
 |pure a => exact fun _ _ => rfl
 |halt h => exact fun _ _ => rfl
 |load m a k ih =>
  intro w es
  simp only [Sem.run, Sem.runT]
  cases w.cell? a with
  |some v => exact ih _ _ _
  |none =>
   dsimp only
   cases w.farLoad P a (m == .atomic) with
   |ok r => exact ih _ _ _
   |error e => rfl
 |store m a v k ih =>
  intro w es
  have key : (match w.cell? a with
   |some _ =>
    if w.frozen? a then (.halt (.unsupported (.unsafePointer "a write to bytes that a string shares")) w, es)
    else k.runT P (w.setCell a v) (es.push ⟨.cell a, true, m == .atomic⟩)
   |none => match w.farStore P a v (m == .atomic) with
    |.ok (w, touched) => k.runT P w (es ++ touched.toArray.map (⟨.cell ·, true, m == .atomic⟩))
    |.error h => (.halt h w, es) : Result _ × Array Event).1 = (match w.cell? a with
   |some _ => if w.frozen? a then .halt (.unsupported (.unsafePointer "a write to bytes that a string shares")) w else k.run P (w.setCell a v)
   |none => match w.farStore P a v (m == .atomic) with
    |.ok (w, _) => k.run P w
    |.error h => .halt h w : Result _) := by
   cases w.cell? a with
   |some v =>
    dsimp only
    split
    ·rfl
    ·exact ih _ _
   |none =>
    dsimp only
    cases w.farStore P a v (m == .atomic) with
    |ok r => exact ih _ _
    |error e => rfl
  cases v <;> first | rfl | exact key
 |new o k ih => exact fun _ _ => ih _ _ _
 |shape r k ih => exact fun _ _ => ih _ _ _
 |freeze a n k ih => exact fun _ _ => ih _ _
 |frozen a k ih => exact fun _ _ => ih _ _ _
 |getObj r k ih =>
  intro w es
  simp only [Sem.run, Sem.runT]
  cases w.heap[r]? with
  |none => rfl
  |some o => cases o <;> first | rfl | exact ih _ _ _
 |setObj r o k ih =>
  intro w es
  simp only [Sem.run, Sem.runT]
  cases w.heap[r]? with
  |none => rfl
  |some x => cases x <;> first | rfl | exact ih _ _
 |choose q k ih =>
  intro w es
  simp only [Sem.run, Sem.runT]
  split <;> exact ih _ _ _
 |sys c k ih => exact fun _ _ => ih _ _ _
 |program k ih => exact fun _ _ => ih _ _ _
 |mark m k ih => exact fun _ _ => ih _ _
end Go.Sim

namespace Go.Sim
variable {P Q : Program} {X : Nat → Prop} {ok : Op → Bool}
def yui (Q : Program) (ok : Op → Bool) (E : Nat → Prop) (cs : List Frame) : Prop := ∀ c ∈ cs, ykc Q ok E c ∧ c.mode = .run
def yrp (P Q : Program) (ok : Op → Bool) (Rr X Z D E : Nat → Prop) (m : Bool) (L : Lim) (fr : Frame) (inner sP sQ : List Frame) (w : World) (g' : Goroutine) (v' : World) : Prop :=
 (∃ f args, Rr f ∧ Z f ∧ g' = gor (Frame.enter Q f args .normal) (fr :: (inner ++ sQ))) ∨
 (∃ w' es', Rel X L w' v' ∧ ycg X w w' ∧ (∀ e ∈ es', yif X w'.heap.size e) ∧
  ((∃ fr' inner', ykc Q ok E fr' ∧ (fr'.mode = .run ∨ fr'.mode = .returning) ∧ yui Q ok E inner' ∧ g' = gor fr' (inner' ++ sQ) ∧ stepG P m (gor fr (inner ++ sP)) w = .go (gor fr' (inner' ++ sP)) w' es') ∨
   (∃ f args, Rr f ∧ D f ∧ ¬ Z f ∧ g' = gor (Frame.enter Q f args .normal) (fr :: (inner ++ sQ)) ∧ stepG P m (gor fr (inner ++ sP)) w = .go (gor (Frame.enter P f args .normal) (fr :: (inner ++ sP))) w' es'))) ∨
 (∃ fr' ch, fr'.mode = .panicking ch ∧ fr'.defers = [] ∧ g' = gor fr' (inner ++ sQ))
section
variable {Rr Z D E : Nat → Prop} {m : Bool} {L : Lim} {fr fr' : Frame} {inner sP sQ : List Frame} {w v v' : World} {g' : Goroutine} {es : Array Event}
theorem alike_move (hR : Rel X L w v) (hc : yui Q ok E inner) (hf : ykc Q ok E fr') (hm : fr'.mode = .run ∨ fr'.mode = .returning)
  (hQ : stepG Q true (gor fr (inner ++ sQ)) v = .go (gor fr' (inner ++ sQ)) v #[]) (hP : stepG P m (gor fr (inner ++ sP)) w = .go (gor fr' (inner ++ sP)) w #[])
  (h : stepG Q true (gor fr (inner ++ sQ)) v = .go g' v' es) : yrp P Q ok Rr X Z D E m L fr inner sP sQ w g' v' := by
 rw [hQ] at h
 cases h
 exact .inr (.inl ⟨w, #[], hR, .refl X w, by simp, .inl ⟨fr', inner, hf, hm, hc, rfl, hP⟩⟩)
theorem ok_todo {fr : Frame} {k : List Item} (h : ykc Q ok E fr) (hk : ybh ok k = true) : ykc Q ok E { fr with todo := k } := ⟨hk, h.defers, h.kind, h.round, h.fn, h.inn⟩
theorem yjr {f : Nat} {args : Array Value} {fn : Func} (hok : ∀ (f : Nat) fn c, Rr f → ¬ D f → Q.funcs[f]? = some fn → fn.body = some c → yaz ok c = true) (hE : ∀ f, E f → D f) (hr : Rr f) (hf : ¬ D f) (hq : Q.funcs[f]? = some fn) : ykc Q ok E (Frame.enter Q f args .normal) := by
 refine ⟨?_, rfl, rfl, rfl, fun h => hf (hE f h), (Array.getElem?_eq_some_iff.1 hq).1⟩
 simp only [Frame.enter, hq, Option.bind_some, ybh, List.all_cons, List.all_nil, Bool.and_true, yik]
 cases hb : fn.body with
 |none => rfl
 |some c => exact hok f fn c hr hf hq hb
theorem yhu {f : Nat} {args : Array Value} (h : P.funcs[f]? = Q.funcs[f]?) : Frame.enter P f args .normal = Frame.enter Q f args .normal := by
 unfold Frame.enter
 rw [h]
theorem yfc (p : Program) (m : Bool) {cs : List Frame} (w : World) (h : fr.mode = .run) : stepG p m (gor fr cs) w = stepG.exec p m true fr cs none w := by
 unfold stepG gor
 dsimp only
 rw [h]
theorem yed (p : Program) (m : Bool) {cs : List Frame} (w : World) (h : fr.mode = .returning) : stepG p m (gor fr cs) w = unwind p m fr cs none w := by
 unfold stepG gor
 dsimp only
 rw [h]
end
end Go.Sim

namespace Go.Sim
variable {P Q : Program} {X : Nat → Prop} {ok : Op → Bool}
section
variable {p : Program} {fr : Frame} {cs : List Frame} {s : Sem Next} {w w1 : World} {es : Array Event} {x : Value}
theorem ybz (hk : fr.kind = .normal) (e : s.runT p w #[] = (.ok (.value x) w1, es)) : stepG.apply p true fr cs none s w = .go (gor (fr.finish x) cs) w1 (seen p fr.fn es) := by
 unfold stepG.apply
 simp [e, hk, GStep.after, gor]
theorem ydd (hk : fr.kind = .normal) (e : s.runT p w #[] = (.ok .skip w1, es)) : stepG.apply p true fr cs none s w = .go (gor (fr.finish undef) cs) w1 (seen p fr.fn es) := by
 unfold stepG.apply
 simp [e, hk, GStep.after, gor]
theorem ymd {f : Nat} {args : Array Value} {ops : Array Oper} {l : List Nat} {k : List Item} (ht : fr.todo = .inRegion ops l :: k) (hk : fr.kind = .normal) (e : s.runT p w #[] = (.ok (.enter f args) w1, es)) : stepG.apply p true fr cs none s w = .go (gor (Frame.enter p f args .normal) (fr :: cs)) w1 (seen p fr.fn es) := by
 unfold stepG.apply
 simp [e, hk, ht, GStep.after, gor]
theorem yjh (hk : fr.kind = .normal) (hr : fr.roundOf = none) (e : s.runT p w #[] = (.ok .recover w1, es)) : stepG.apply p true fr cs none s w = .go (gor (fr.finish .nilIface) cs) w1 (seen p fr.fn es) := by
 have : tryRecover fr cs = none := by unfold tryRecover; rw [hk]
 unfold stepG.apply
 simp [e, hk, hr, this, GStep.after, gor]
theorem yir (hk : fr.kind = .normal) (e : s.runT p w #[] = (.halt (.panic x) w1, es)) : stepG.apply p true fr cs none s w = .go (gor (fr.raise [{ v := x, recovered := false }]) cs) w1 (seen p fr.fn es) := by
 unfold stepG.apply
 simp [e, hk, GStep.after, gor]
theorem yhs {y : Halt} (hy : yie y = true) (e : s.runT p w #[] = (.halt y w1, es)) : ∃ o u l, stepG.apply p true fr cs none s w = .ended o u l := by
 unfold stepG.apply
 cases y with
 |unsupported u =>
  cases u <;> first | (cases hy; done) | exact ⟨_, _, _, by simp only [e, if_true]; rfl⟩
 |stuck m => exact ⟨_, _, _, by simp only [e, if_true]; rfl⟩
 |_ => cases hy
theorem ymj {p : Program} {fr : Frame} {cs : List Frame} {d : Option Dying} {g : Nat} {w w' : World} {g' : Goroutine} {es : Array Event} (h : early p fr cs d g w = .go g' w' es) : w.drawn ≤ w'.drawn := by
 unfold early at h
 dsimp only at h
 repeat' split at h
 all_goals first | (cases h; done) | (cases h; exact Nat.le_refl _) | skip
 all_goals
  have hd := yeb p (choose (.early g)) w
  have hx := ‹Sem.run p (choose (Question.early g)) w = Result.ok _ _›
  rw [hx] at hd
  cases h
  exact hd
theorem ylk {l es : Array Event} {x : GStep} {g : Goroutine} {w : World} (h : GStep.after l x = .go g w es) : ∃ es', x = .go g w es' := by
 cases x <;> simp [GStep.after] at h
 exact ⟨_, by rw [h.1, h.2.1]⟩
theorem run_wd {α : Type} {p : Program} {s : Sem α} {w w' : World} {a : α} (e : s.run p w = .ok a w') : w.drawn ≤ w'.drawn := by
 have := yeb p s w
 rw [e] at this
 exact this
theorem ymk {p : Program} {fr : Frame} {cs : List Frame} {d : Option Dying} {mm : String} {w w' : World} {g' : Goroutine} {es : Array Event} (h : endFatal p fr cs d mm w = .go g' w' es) : w.drawn ≤ w'.drawn := by
 unfold endFatal at h
 dsimp only at h
 split at h
 ·next e =>
  unfold dieOf at h
  cases h
  exact run_wd e
 ·cases h
 ·cases h
theorem yiq {p : Program} {fr : Frame} {cs : List Frame} {s : Sem Next} {w w1 w' : World} {es es' : Array Event} {y : Halt} {g' : Goroutine} (e : s.runT p w #[] = (.halt y w1, es)) (h : stepG.apply p true fr cs none s w = .go g' w' es') : w1.drawn ≤ w'.drawn := by
 unfold stepG.apply at h
 simp only [e, if_true] at h
 obtain ⟨l, h⟩ := ylk h
 cases y with
 |unsupported u =>
  cases u <;> first | (cases h; done) | exact ymj h
 |fatal mm => exact ymk h
 |throw mm => unfold endThrow dieOf at h; cases h; exact Nat.le_refl _
 |exit c => cases h
 |stuck c => cases h
 |_ => cases h; exact Nat.le_refl _
end
section
variable {Rr Z D E : Nat → Prop} {m : Bool} {L : Lim} {fr : Frame} {inner sP sQ : List Frame} {w v v' : World} {g' : Goroutine} {es : Array Event}
theorem yev {n fn : Nat} {es : Array Event} (h : ∀ e ∈ es, yif X n e) : ∀ e ∈ seen P fn es, yif X n e := fun e he => h e (mem_seen P fn es e he)
theorem yuj (hEs : ∀ f, E f → D f) (hD : ∀ f, Rr f → ¬ D f → P.funcs[f]? = Q.funcs[f]?)
  (hok : ∀ (f : Nat) fn c, Rr f → ¬ D f → Q.funcs[f]? = some fn → fn.body = some c → yaz ok c = true)
  {s : Sem Next} {ops : Array Oper} {l : List Nat} {k : List Item} (ht : fr.todo = .inRegion ops l :: k) (hf : ykc Q ok E fr) (hm : fr.mode = .run) (hc : yui Q ok E inner)
  (hs : ybd X L (EscZ Z) w #[] (s.runT P w #[]) (s.run Q v)) (hn : ∀ a v', s.run Q v = .ok a v' → okN a) (hE : ∀ f args v', s.run Q v = .ok (.enter f args) v' → Rr f ∧ ∃ fn, Q.funcs[f]? = some fn) (hR : Rel X L w v)
  (hQ : stepG Q true (gor fr (inner ++ sQ)) v = stepG.apply Q true fr (inner ++ sQ) none s v) (hP : stepG P m (gor fr (inner ++ sP)) w = stepG.apply P true fr (inner ++ sP) none s w)
  (h : stepG Q true (gor fr (inner ++ sQ)) v = .go g' v' es) (hL : v'.drawn ≤ L.lim) : yrp P Q ok Rr X Z D E m L fr inner sP sQ w g' v' := by
 rw [hQ] at h
 have hq := yfp Q s v #[]
 have hp := hs
 generalize eQ : s.runT Q v #[] = rQ at hq
 obtain ⟨r, esQ⟩ := rQ
 dsimp only at hq
 rw [← hq] at hp hn hE
 have fin : ∀ x w1 es', Rel X L w1 v' → ycg X w w1 → (∀ e ∈ es', yif X w1.heap.size e) → g' = gor (fr.finish x) (inner ++ sQ) → stepG P m (gor fr (inner ++ sP)) w = .go (gor (fr.finish x) (inner ++ sP)) w1 (seen P fr.fn es') → yrp P Q ok Rr X Z D E m L fr inner sP sQ w g' v' :=
  fun x w1 es' h1 h2 h3 h4 h5 => .inr (.inl ⟨w1, _, h1, h2, yev h3, .inl ⟨fr.finish x, inner, yjs hf x, .inl ((yit fr x).trans hm), hc, h4, h5⟩⟩)
 cases r with
 |ok a v1 =>
  have ha := hn a v1 rfl
  cases a with
  |value x =>
   rw [ybz hf.kind eQ] at h
   cases h
   rcases hp hL with q | ⟨w1, new, e, hR1, hz, hfn⟩
   ·cases q
   ·rw [Array.empty_append] at e
    exact fin x w1 new hR1 hz hfn rfl (hP.trans (ybz hf.kind e))
  |skip =>
   rw [ydd hf.kind eQ] at h
   cases h
   rcases hp hL with q | ⟨w1, new, e, hR1, hz, hfn⟩
   ·cases q
   ·rw [Array.empty_append] at e
    exact fin undef w1 new hR1 hz hfn rfl (hP.trans (ydd hf.kind e))
  |recover =>
   rw [yjh hf.kind hf.round eQ] at h
   cases h
   rcases hp hL with q | ⟨w1, new, e, hR1, hz, hfn⟩
   ·cases q
   ·rw [Array.empty_append] at e
    exact fin .nilIface w1 new hR1 hz hfn rfl (hP.trans (yjh hf.kind hf.round e))
  |enter f args =>
   rw [ymd ht hf.kind eQ] at h
   cases h
   obtain ⟨hrr, fn, hfq⟩ := hE f args v' rfl
   by_cases hz : Z f
   ·exact .inl ⟨f, args, hrr, hz, rfl⟩
   rcases hp hL with q | ⟨w1, new, e, hR1, hz', hfn⟩
   ·exact absurd q hz
   ·rw [Array.empty_append] at e
    have hP' := hP.trans (ymd ht hf.kind e)
    refine .inr (.inl ⟨w1, seen P fr.fn new, hR1, hz', yev hfn, ?_⟩)
    by_cases hd : D f
    ·exact .inr ⟨f, args, hrr, hd, hz, rfl, hP'⟩
    ·refine .inl ⟨Frame.enter Q f args .normal, fr :: inner, yjr hok hEs hrr hd hfq, .inl rfl, ?_, rfl, ?_⟩
     ·intro c hcm
      rcases List.mem_cons.1 hcm with rfl | hcm
      ·exact ⟨hf, hm⟩
      ·exact hc c hcm
     ·rw [yhu (hD f hrr hd)] at hP'
      exact hP'
  |_ => exact ha.elim
 |halt y v1 =>
  cases y with
  |panic x =>
   rw [yir hf.kind eQ] at h
   cases h
   refine .inr (.inr ⟨fr.raise [{ v := x, recovered := false }], [{ v := x, recovered := false }], ?_, ?_, rfl⟩)
   ·show (fr.raise _).mode = _
    unfold Frame.raise
    rw [hm]
   ·show (fr.raise _).defers = _
    unfold Frame.raise
    rw [hm]
    exact hf.defers
  |_ =>
   have hk := (hp (Nat.le_trans (yiq eQ h) hL)).1
   obtain ⟨o, u, l, e⟩ := yhs (fr := fr) (cs := inner ++ sQ) (by exact hk) eQ
   rw [e] at h
   cases h
def yks (Q : Program) : Next → Prop
 |.enter f _ => ∃ fn, Q.funcs[f]? = some fn
 |_ => True
theorem ykv {s : Sem Value} : yao Q (yks Q) (do pure (.value (← s))) := yao.bind fun _ => yao.pure trivial
theorem yut {s : Sem Unit} : yao Q (yks Q) (do s; pure .skip) := yao.bind fun _ => yao.pure trivial
theorem yeu (hb : bodied Q) (f : Nat) (args : Array Value) : yao Q (yks Q) (callFunc f args) := by
 intro v a v' e
 cases hq : Q.funcs[f]? with
 |none =>
  change (Sem.program fun p => match p.funcs[f]? with
   |none => stuck "call: no such function"
   |some fn => _).run Q v = _ at e
  simp only [Sem.run] at e
  rw [hq] at e
  cases e
 |some fn =>
  obtain ⟨h1 | hn, h2⟩ := hb f fn hq
  ·change (Sem.program fun p => match p.funcs[f]? with
    |none => stuck "call: no such function"
    |some fn => _).run Q v = _ at e
   simp only [Sem.run] at e
   rw [hq] at e
   dsimp only at e
   rw [h1, h2] at e
   cases e
   exact ⟨fn, hq⟩
  ·obtain ⟨x, rfl⟩ := yhj hq hn h2 e
   trivial
theorem yfx (hb : bodied Q) (r : Value) (n : String) (args : Array Value) : yao Q (yks Q) (callMethod r n args) := by
 unfold callMethod
 split
 ·exact yao.bind fun _ => yao.bind fun x => yeu hb _ _
 ·exact yaj _
 ·exact yao.halt _
theorem yoe (b : Builtin) (h : okB b = true) (ts : Array TypeId) (t : TypeId) (cs : Array Bool) (x : Array Value) : yao Q (yks Q) (builtin b ts t cs x) := by
 cases b <;> first | (cases h; done) | skip
 all_goals unfold builtin
 all_goals first | exact ykv | exact yao.halt _ | exact yao.pure (φ := yks Q) trivial | exact yao.bind fun _ => yao.pure trivial
theorem yef (hb : bodied Q) {v : World} (h : Tame v) (t : Target) (ht : okT t = true) (args : Array Value) (a : Next) (v' : World) (e : (invoke t args).run Q v = .ok a v') : yks Q a := by
 unfold invoke at e
 split at e
 ·exact yaj _ _ _ _ e
 ·exact yoe _ ht _ _ _ _ _ _ _ e
 ·exact yeu hb _ _ _ _ _ e
 ·split at e
  ·exact yfx hb _ _ _ _ _ _ e
  ·exact yao.halt _ _ _ _ e
 ·split at e
  ·exact yao.bind (fun d => yfx hb _ _ _) _ _ _ e
  ·exact yao.halt _ _ _ _ e
 ·split at e
  ·exact yao.bind (fun d => yeu hb _ _) _ _ _ e
  ·exact yao.halt _ _ _ _ e
 ·exact absurd e (ypo h _ _ _ _)
 ·exact yao.halt _ _ _ _ e
 ·cases ht
theorem yjj (hb : bodied Q) {v : World} (h : Tame v) (ρ : Operand → Value) (o : Oper) (ho : okG Q o.op = true) (a : Next) (v' : World) (e : (execOp ρ o).run Q v = .ok a v') : yks Q a := by
 unfold execOp at e
 dsimp only at e
 split at e
 all_goals first | exact ykv _ _ _ e | exact yut _ _ _ e | exact yao.bind (fun _ => yao.pure trivial) _ _ _ e | exact yao.pure trivial _ _ _ e | (rename_i hop; rw [hop] at ho; cases ho; done) | skip
 ·split at e
  all_goals first | exact yaj _ _ _ _ e | exact yao.pure trivial _ _ _ e | skip
  split at e
  all_goals first | exact yaj _ _ _ _ e | exact yao.pure trivial _ _ _ e | skip
  exact yao.bind (fun _ => yao.bind fun _ => by split <;> first | exact yao.bind (fun _ => yao.pure trivial) | exact yao.pure trivial) _ _ _ e
 ·next c hop =>
  rw [hop] at ho
  revert e
  unfold resolve
  dsimp only
  split
  ·next b eb =>
   simp only [okG, ydf, eb] at ho
   exact fun e => yef hb h (.builtin b _ _ _) ho _ _ _ (pb e)
  ·exact fun e => yef hb h _ (by rfl) _ _ _ (pb e)
  ·unfold Deferred.ofValue
   split
   ·exact fun e => yef hb h _ (by rfl) _ _ _ (pb e)
   ·exact fun e => yef hb h _ (by rfl) _ _ _ (pb e)
   ·exact fun e => yao.halt _ _ _ _ e
end
end Go.Sim

namespace Go.Sim
variable {P Q : Program} {X : Nat → Prop} {ok : Op → Bool}
structure PairB (P Q : Program) (ok : Op → Bool) (Rr Z D E : Nat → Prop) : Prop where
 tables : P.toTables = Q.toTables
 ends : ∀ (fr : Frame) (o : Oper) v a v', ok o.op = true → Tame v → (execOp fr.eval o).run Q v = .ok a v' → okN a
 into : ∀ (fr : Frame) (o : Oper) f args v v', ok o.op = true → Tame v → (execOp fr.eval o).run Q v = .ok (.enter f args) v' → Rr f ∧ ∃ fn, Q.funcs[f]? = some fn
 same : ∀ f, Rr f → ¬ D f → P.funcs[f]? = Q.funcs[f]?
 code : ∀ (f : Nat) fn c, Rr f → ¬ D f → Q.funcs[f]? = some fn → fn.body = some c → yaz ok c = true
 sub : ∀ f, Z f → D f
 subE : ∀ f, E f → D f
 res : ∀ (f : Nat) fQ, ¬ E f → Q.funcs[f]? = some fQ → ∃ fP, P.funcs[f]? = some fP ∧ fP.results = fQ.results
structure yny (P Q : Program) (ok : Op → Bool) (Rr Z D E : Nat → Prop) : Prop extends PairB P Q ok Rr Z D E where
 ops : ∀ (X : Nat → Prop) (fr : Frame) (o : Oper), ok o.op = true → yaa P Q X (EscZ Z) (execOp fr.eval o)
theorem ysh {Rr Z D E : Nat → Prop} (T : PairB P Q ok Rr Z D E) (d : Departure) : P.follows d = Q.follows d := by
 have := T.tables
 unfold Tables.follows
 rw [this]
section
variable {Rr Z D E : Nat → Prop} {m : Bool} {L : Lim} {fr : Frame} {inner sP sQ : List Frame} {w v v' : World} {g' : Goroutine} {es : Array Event}
theorem yru (T : PairB P Q ok Rr Z D E) (hf : ykc Q ok E fr) (hm : fr.mode = .returning) (hc : yui Q ok E inner) (hne : inner ≠ []) (hR : Rel X L w v)
  (h : stepG Q true (gor fr (inner ++ sQ)) v = .go g' v' es) (hL : v'.drawn ≤ L.lim) : yrp P Q ok Rr X Z D E m L fr inner sP sQ w g' v' := by
 obtain ⟨c, rest, rfl⟩ := List.exists_cons_of_ne_nil hne
 have hP : stepG P m (gor fr (c :: rest ++ sP)) w = _ := yed P m w hm
 rw [yed Q true v hm] at h
 unfold unwind at h hP
 simp only [hf.defers, hm] at h hP
 cases hq : Q.funcs[fr.fn]? with
 |none => exact absurd (Array.getElem?_eq_none_iff.1 hq) (Nat.not_le.2 hf.inn)
 |some fn =>
  obtain ⟨fP, hfP, hres⟩ := T.res fr.fn fn hf.fn hq
  rw [hq] at h
  rw [hfP] at hP
  have er : results fP fr.tmps = results fn fr.tmps := by unfold results; rw [hres]
  dsimp only at h hP
  rw [er] at hP
  have hs := zfa (Esc := fun _ => False) (X := X) T.tables fn fr.tmps L w v #[] hR
  have e1 := yfp Q (results fn fr.tmps) v #[]
  generalize eQ : (results fn fr.tmps).runT Q v #[] = rQ at h e1
  obtain ⟨r, esQ⟩ := rQ
  dsimp only at e1 h
  rw [← e1] at hs
  obtain ⟨l, h⟩ := ylk h
  cases r with
  |ok x v1 =>
   dsimp only at h
   unfold doReturn at h
   simp only [List.cons_append, hf.kind] at h
   cases h
   rcases hs hL with q | ⟨w1, new, e, hR1, hz, hfn⟩
   ·exact q.elim
   ·rw [Array.empty_append] at e
    rw [e] at hP
    dsimp only at hP
    unfold doReturn at hP
    simp only [List.cons_append, hf.kind, GStep.after, Array.append_empty] at hP
    have hcc := hc c (List.mem_cons_self ..)
    exact .inr (.inl ⟨w1, seen P fr.fn new, hR1, hz, yev hfn, .inl ⟨c.finish x, rest, yjs hcc.1 x, .inl ((yit c x).trans hcc.2), fun a ha => hc a (List.mem_cons_of_mem _ ha), rfl, hP⟩⟩)
  |halt y v1 => cases y <;> cases h
theorem zfs (T : PairB P Q ok Rr Z D E) (hops : ∀ o : Oper, ok o.op = true → ybd X L (EscZ Z) w #[] ((execOp fr.eval o).runT P w #[]) ((execOp fr.eval o).run Q v)) (hf : ykc Q ok E fr) (hm : fr.mode = .run ∨ fr.mode = .returning) (hc : yui Q ok E inner) (hne : fr.mode = .returning → inner ≠ []) (hR : Rel X L w v)
  (h : stepG Q true (gor fr (inner ++ sQ)) v = .go g' v' es) (hL : v'.drawn ≤ L.lim) : yrp P Q ok Rr X Z D E m L fr inner sP sQ w g' v' := by
 rcases hm with hm | hm
 case inr => exact yru T hf hm hc (hne hm) hR h hL
 have eQ := yfc (fr := fr) (cs := inner ++ sQ) Q true v hm
 have eP := yfc (fr := fr) (cs := inner ++ sP) P m w hm
 have hit := hf.items
 have mv : ∀ fr', ykc Q ok E fr' → (fr'.mode = .run ∨ fr'.mode = .returning) → stepG.exec Q true true fr (inner ++ sQ) none v = .go (gor fr' (inner ++ sQ)) v #[] → stepG.exec P m true fr (inner ++ sP) none w = .go (gor fr' (inner ++ sP)) w #[] → yrp P Q ok Rr X Z D E m L fr inner sP sQ w g' v' :=
  fun fr' h1 h2 h3 h4 => alike_move hR hc h1 h2 (eQ.trans h3) (eP.trans h4) h
 have to : ∀ k, ybh ok k = true → stepG.exec Q true true fr (inner ++ sQ) none v = .go (gor { fr with todo := k } (inner ++ sQ)) v #[] → stepG.exec P m true fr (inner ++ sP) none w = .go (gor { fr with todo := k } (inner ++ sP)) w #[] → yrp P Q ok Rr X Z D E m L fr inner sP sQ w g' v' :=
  fun k h1 h3 h4 => mv _ (ok_todo hf h1) (.inl hm) h3 h4
 have back : ykc Q ok E { fr with mode := .returning } := ⟨hf.items, hf.defers, hf.kind, hf.round, hf.fn, hf.inn⟩
 cases ht : fr.todo with
 |nil =>
  refine mv _ back (.inr rfl) ?_ ?_ <;> (unfold stepG.exec; simp only [ht, hf.round]; rfl)
 |cons it k =>
  rw [ht] at hit
  have hk : ybh ok k = true := by simp only [ybh, List.all_cons, Bool.and_eq_true] at hit; exact hit.2
  have hi : yik ok it = true := by simp only [ybh, List.all_cons, Bool.and_eq_true] at hit; exact hit.1
  have cons : ∀ i l, yik ok i = true → ybh ok l = true → ybh ok (i :: l) = true := fun i l h1 h2 => by simp only [ybh, List.all_cons, Bool.and_eq_true]; exact ⟨h1, h2⟩
  cases it with
  |inBlock id => exact to k hk (by unfold stepG.exec; simp only [ht]; rfl) (by unfold stepG.exec; simp only [ht]; rfl)
  |inScope b => exact to k hk (by unfold stepG.exec; simp only [ht]; rfl) (by unfold stepG.exec; simp only [ht]; rfl)
  |inLoop b => exact to (.code b :: .inLoop b :: k) (cons _ _ hi (cons _ _ hi hk)) (by unfold stepG.exec; simp only [ht]; rfl) (by unfold stepG.exec; simp only [ht]; rfl)
  |inRangeFunc l => cases hi
  |endRangeFunc l => cases hi
  |beginRound => cases hi
  |call d a b c => cases hi
  |extern a b => cases hi
  |inRegion ops l =>
   cases l with
   |nil => exact to k hk (by unfold stepG.exec; simp only [ht]; rfl) (by unfold stepG.exec; simp only [ht]; rfl)
   |cons i rest =>
    cases hw : ((ops[i]?).map (Region.wanted · (yielded ops fr.tmps))).getD false with
    |false => exact mv _ (yjs hf undef) (.inl ((yit fr undef).trans hm)) (by unfold stepG.exec; simp only [ht, hw]; rfl) (by unfold stepG.exec; simp only [ht, hw]; rfl)
    |true =>
     cases ho : ops[i]? with
     |none => rw [ho] at hw; cases hw
     |some o =>
      have hop : fr.oper? = some o := by unfold Frame.oper?; rw [ht]; exact ho
      have ho1 : ok o.op = true := by
       have : ops.all (fun o => ok o.op) = true := hi
       rw [Array.all_eq_true] at this
       obtain ⟨hlt, e⟩ := Array.getElem?_eq_some_iff.1 ho
       rw [← e]
       exact this i hlt
      have ex : ∀ (p : Program) (m : Bool) (cs : List Frame) (w : World), stepG.exec p m true fr cs none w = stepG.apply p true fr cs none (execOp fr.eval o) w := by
       intro p m cs w
       unfold stepG.exec
       simp only [ht, hw, if_true]
       unfold stepG.oper
       simp only [hop, hf.round]
      exact yuj T.subE T.same T.code ht hf hm hc (hops o ho1) (fun a v' e => T.ends fr o v a v' ho1 hR.tame e) (fun f args v' e => T.into fr o f args v v' ho1 hR.tame e) hR (eQ.trans (ex Q true _ v)) (eP.trans (ex P m _ w)) h hL
  |code c =>
   cases c with
   |ret => refine mv _ back (.inr rfl) ?_ ?_ <;> (unfold stepG.exec; simp only [ht, hf.round]; rfl)
   |skip => exact to k hk (by unfold stepG.exec; simp only [ht]; rfl) (by unfold stepG.exec; simp only [ht]; rfl)
   |label l => exact to k hk (by unfold stepG.exec; simp only [ht]; rfl) (by unfold stepG.exec; simp only [ht]; rfl)
   |seq a b =>
    have hi' : yaz ok a = true ∧ yaz ok b = true := by simpa only [yik, yaz, Bool.and_eq_true] using hi
    exact to (.code a :: .code b :: k) (cons _ _ hi'.1 (cons _ _ hi'.2 hk)) (by unfold stepG.exec; simp only [ht]; rfl) (by unfold stepG.exec; simp only [ht]; rfl)
   |cond c a b =>
    have hi' : yaz ok a = true ∧ yaz ok b = true := by simpa only [yik, yaz, Bool.and_eq_true] using hi
    rw [eQ] at h
    cases he : fr.eval c with
    |bool t =>
     rw [← eQ] at h
     exact to (.code (if t then a else b) :: k) (cons _ _ (by cases t; exact hi'.2; exact hi'.1) hk) (by unfold stepG.exec; simp only [ht, he]; rfl) (by unfold stepG.exec; simp only [ht, he]; rfl)
    |_ => unfold stepG.exec at h; simp only [ht, he] at h; cases h
   |block id b => exact to (.code b :: .inBlock id :: k) (cons _ _ hi (cons _ _ rfl hk)) (by unfold stepG.exec; simp only [ht]; rfl) (by unfold stepG.exec; simp only [ht]; rfl)
   |loop b => exact to (.code b :: .inLoop b :: k) (cons _ _ hi (cons _ _ hi hk)) (by unfold stepG.exec; simp only [ht]; rfl) (by unfold stepG.exec; simp only [ht]; rfl)
   |scope b => exact to (.code b :: .inScope b :: k) (cons _ _ hi (cons _ _ hi hk)) (by unfold stepG.exec; simp only [ht]; rfl) (by unfold stepG.exec; simp only [ht]; rfl)
   |rangeFunc f a b c => cases hi
   |exit id =>
    cases hx : exitTo id k with
    |some k' => exact to k' (ymt hk hx) (by unfold stepG.exec; simp only [ht, hx, Option.elim]; rfl) (by unfold stepG.exec; simp only [ht, hx, Option.elim]; rfl)
    |none =>
     rw [eQ] at h
     unfold stepG.exec at h
     simp only [ht, hx, Option.elim, hf.round] at h
     cases h
   |goto l =>
    cases hx : gotoIn l k with
    |some k' => exact to k' (ymu hk hx) (by unfold stepG.exec; simp only [ht, hx, Option.elim]; rfl) (by unfold stepG.exec; simp only [ht, hx, Option.elim]; rfl)
    |none =>
     rw [eQ] at h
     unfold stepG.exec at h
     simp only [ht, hx, Option.elim, hf.round] at h
     cases h
   |refuse why =>
    rw [eQ] at h
    unfold stepG.exec at h
    simp only [ht] at h
    cases h
   |region id ops draw =>
    cases draw with
    |false => exact to (.inRegion ops (List.range ops.size) :: k) (cons _ _ hi hk) (by unfold stepG.exec; simp only [ht]; rfl) (by unfold stepG.exec; simp only [ht]; rfl)
    |true =>
     have ex : ∀ (p : Program) (m : Bool) (cs : List Frame) (w : World), stepG.exec p m true fr cs none w = .go (gor { fr with todo := .inRegion ops (Region.schedule (p.follows .mixedOrders) ops (w.tape w.drawn (.order fr.fn id))) :: k } cs) { w with drawn := w.drawn + 1 } #[] := by
      intro p m cs w
      unfold stepG.exec
      simp only [ht, Bool.not_true, Bool.false_eq_true, if_false, choose, Sem.run, Question.forced, Question.cut]
      rfl
     rw [eQ, ex] at h
     cases h
     have hd : v.drawn < L.lim := hL
     have e : v.tape v.drawn = w.tape w.drawn := by simpa using hR.fut 0 (by omega)
     refine .inr (.inl ⟨{ w with drawn := w.drawn + 1 }, #[], hR.drew, .of_heap rfl, by simp, .inl ⟨_, inner, ok_todo hf (k := .inRegion ops (Region.schedule (Q.follows .mixedOrders) ops (v.tape v.drawn (.order fr.fn id))) :: k) (cons _ _ hi hk), .inl hm, hc, rfl, ?_⟩⟩)
     rw [eP, ex, ysh T, e]
theorem zfr (T : yny P Q ok Rr Z D E) (hf : ykc Q ok E fr) (hm : fr.mode = .run ∨ fr.mode = .returning) (hc : yui Q ok E inner) (hne : fr.mode = .returning → inner ≠ []) (hR : Rel X L w v)
  (h : stepG Q true (gor fr (inner ++ sQ)) v = .go g' v' es) (hL : v'.drawn ≤ L.lim) : yrp P Q ok Rr X Z D E m L fr inner sP sQ w g' v' :=
 zfs T.toPairB (fun o ho => T.ops X fr o ho L w v #[] hR) hf hm hc hne hR h hL
end
end Go.Sim

namespace Go.Sim
variable {Q : Program}
def yco (R : Nat → Bool) : Op → Bool
 |.call c => match c.callee with
  |.value (.func f) => R f
  |.builtin _ => true
  |_ => false
 |_ => true
def InR (R : Nat → Bool) : Next → Prop
 |.enter f _ => R f = true
 |_ => True
theorem ysm {R : Nat → Bool} {s : Sem Value} : yao Q (InR R) (do pure (.value (← s))) := yao.bind fun _ => yao.pure trivial
theorem inr_skip {R : Nat → Bool} {s : Sem Unit} : yao Q (InR R) (do s; pure .skip) := yao.bind fun _ => yao.pure trivial
theorem yve {R : Nat → Bool} (b : Builtin) (h : okB b = true) (ts : Array TypeId) (t : TypeId) (cs : Array Bool) (x : Array Value) : yao Q (InR R) (builtin b ts t cs x) := by
 cases b <;> first | (cases h; done) | skip
 all_goals unfold builtin
 all_goals first | exact ysm | exact yao.halt _ | exact yao.pure (φ := InR R) trivial | exact yao.bind fun _ => yao.pure trivial
def Owns (Q : Program) (f : Nat) : Prop := ∃ fn, Q.funcs[f]? = some fn ∧ fn.body.isNone = false ∧ (fn.name == "runtime.NumGoroutine") = false
theorem yea {f : Nat} (h : Owns Q f) (args : Array Value) (w : World) : (callFunc f args).run Q w = .ok (.enter f args) w := by
 obtain ⟨fn, hq, h1, h2⟩ := h
 show (Sem.program fun p => match p.funcs[f]? with
  |none => stuck "call: no such function"
  |some fn => _).run Q w = _
 simp only [Sem.run, hq, h1, h2]
 rfl
theorem yjy {f : Nat} (h : Owns Q f) (args : Array Value) (w : World) (es : Array Event) : (callFunc f args).runT Q w es = (.ok (.enter f args) w, es) := by
 obtain ⟨fn, hq, h1, h2⟩ := h
 show (Sem.program fun p => match p.funcs[f]? with
  |none => stuck "call: no such function"
  |some fn => _).runT Q w es = _
 simp only [Sem.runT, hq, h1, h2]
 rfl
section
variable {P : Program} {R : Nat → Bool}
def yrr (Q : Program) (f : Nat) : Prop := ∃ fn, Q.funcs[f]? = some fn ∧ Done fn
theorem zfq {X : Nat → Prop} {Esc : Next → Prop} (hT : P.toTables = Q.toTables) (hsame : ∀ f, R f = true → P.funcs[f]? = Q.funcs[f]?) (hQ : ∀ f, R f = true → yrr Q f) (fr : Frame) (o : Oper) (hk : ydf Q o.op = true) (ho : yco R o.op = true) : yaa P Q X Esc (execOp fr.eval o) := by
 refine zbx hT fr.eval o hk fun c hop => ?_
 rw [hop] at ho hk
 unfold resolve
 dsimp only
 cases hc : c.callee with
 |builtin b =>
  simp only [ydf, hc] at hk
  exact zeu (zau hT b hk _ _ _ _)
 |invoke r n => simp [yco, hc] at ho
 |value x =>
  cases x with
  |func f =>
   simp only [yco, hc] at ho
   refine zeu ?_
   show yaa P Q X Esc (callFunc f _)
   obtain ⟨fn, hq, h1 | hn, h2⟩ := hQ f ho
   ·intro L w v es h _
    rw [yea ⟨fn, hq, h1, h2⟩, yjy ⟨fn, (hsame f ho).trans hq, h1, h2⟩]
    exact .inr ⟨w, #[], by simp, h, .refl X w, by simp⟩
   ·exact zdz hT ((hsame f ho).trans hq) hq hn h2 _
  |_ => simp [yco, hc] at ho
theorem ynl (hQ : ∀ f, R f = true → yrr Q f) (fr : Frame) (o : Oper) {v : World} (ho : yco R o.op = true) (hk : okG Q o.op = true) (a : Next) (v' : World) (e : (execOp fr.eval o).run Q v = .ok a v') : okN a ∧ InR R a := by
 unfold execOp at e
 dsimp only at e
 split at e
 all_goals first | exact ⟨ykg _ _ _ e, ysm _ _ _ e⟩ | exact ⟨ysc _ _ _ e, inr_skip _ _ _ e⟩ | exact ⟨yao.bind (fun _ => yao.pure trivial) _ _ _ e, yao.bind (fun _ => yao.pure trivial) _ _ _ e⟩ | exact ⟨yao.pure trivial _ _ _ e, yao.pure trivial _ _ _ e⟩ | (rename_i hop; rw [hop] at hk; cases hk; done) | skip
 ·split at e
  all_goals first | exact ⟨yaj _ _ _ _ e, yaj _ _ _ _ e⟩ | exact ⟨yao.pure trivial _ _ _ e, yao.pure trivial _ _ _ e⟩ | skip
  split at e
  all_goals first | exact ⟨yaj _ _ _ _ e, yaj _ _ _ _ e⟩ | exact ⟨yao.pure trivial _ _ _ e, yao.pure trivial _ _ _ e⟩ | skip
  exact ⟨yao.bind (fun _ => yao.bind fun _ => by split <;> first | exact yao.bind (fun _ => yao.pure trivial) | exact yao.pure trivial) _ _ _ e, yao.bind (fun _ => yao.bind fun _ => by split <;> first | exact yao.bind (fun _ => yao.pure trivial) | exact yao.pure trivial) _ _ _ e⟩
 ·next c hop =>
  rw [hop] at ho hk
  unfold resolve at e
  dsimp only at e
  cases hc : c.callee with
  |builtin b =>
   rw [hc] at e
   simp only [okG, ydf, hc] at hk
   exact ⟨yku b hk _ _ _ _ _ _ _ (pb e), yve b hk _ _ _ _ _ _ _ (pb e)⟩
  |invoke r n => simp [yco, hc] at ho
  |value x =>
   rw [hc] at e
   cases x with
   |func f =>
    simp only [yco, hc] at ho
    have e2 : (callFunc f _).run Q v = .ok a v' := pb e
    obtain ⟨fn, hq, h1 | hn, h2⟩ := hQ f ho
    ·rw [yea ⟨fn, hq, h1, h2⟩] at e2
     cases e2
     exact ⟨trivial, ho⟩
    ·obtain ⟨x, rfl⟩ := yhj hq hn h2 e2
     exact ⟨trivial, trivial⟩
   |_ => simp [yco, hc] at ho
theorem ykx (hT : P.toTables = Q.toTables) (hsame : ∀ f, R f = true → P.funcs[f]? = Q.funcs[f]?) (hQ : ∀ f, R f = true → yrr Q f) {Esc : Next → Prop} {L : Lim} {w v : World} {es : Array Event} (fr : Frame) (o : Oper) (hk : okG Q o.op = true) (ho : yco R o.op = true) (hR : Rel ybr L w v) (he : w.heap = v.heap) : ybd ybr L Esc w es ((execOp fr.eval o).runT P w es) ((execOp fr.eval o).run Q v) := by
 rcases yss hk with h | ⟨src, dst, x, hop⟩
 ·exact zfq hT hsame hQ fr o h ho L w v es hR
 ·exact ypf hT fr.eval o hop hR he
theorem PairB.static {P Q : Program} {R : Nat → Bool} {ok : Op → Bool} (hok : ∀ o, ok o = true → okG Q o = true ∧ yco R o = true) (hT : P.toTables = Q.toTables) (hQ : ∀ f, R f = true → yrr Q f) (hsame : ∀ f, R f = true → P.funcs[f]? = Q.funcs[f]?)
  (hcode : ∀ (f : Nat) fn c, R f = true → Q.funcs[f]? = some fn → fn.body = some c → yaz ok c = true) {E : Nat → Prop} (hE : ∀ f, ¬ E f → R f = true) : PairB P Q ok (fun f => R f = true) (fun _ => False) (fun f => E f) E where
 tables := hT
 ends := fun fr o v a v' ho _ e => (ynl hQ fr o (hok _ ho).2 (hok _ ho).1 a v' e).1
 into := fun fr o f args v v' ho _ e => by
  have h := (ynl hQ fr o (hok _ ho).2 (hok _ ho).1 _ v' e).2
  obtain ⟨fn, hq, _⟩ := hQ f h
  exact ⟨h, fn, hq⟩
 same := fun f h _ => hsame f h
 code := fun f fn c h _ h1 h2 => hcode f fn c h h1 h2
 sub := fun _ h => h.elim
 subE := fun _ h => h
 res := fun f fQ hE' h => ⟨fQ, by rw [hsame f (hE f hE')]; exact h, rfl⟩
theorem yny.static {P Q : Program} {R : Nat → Bool} (hT : P.toTables = Q.toTables) (hQ : ∀ f, R f = true → yrr Q f) (hsame : ∀ f, R f = true → P.funcs[f]? = Q.funcs[f]?)
  (hcode : ∀ (f : Nat) fn c, R f = true → Q.funcs[f]? = some fn → fn.body = some c → yaz (fun o => ydf Q o && yco R o) c = true) {E : Nat → Prop} (hE : ∀ f, ¬ E f → R f = true) : yny P Q (fun o => ydf Q o && yco R o) (fun f => R f = true) (fun _ => False) (fun f => E f) E :=
 ⟨PairB.static (fun o ho => ⟨okG_of (Bool.and_eq_true_iff.1 ho).1, (Bool.and_eq_true_iff.1 ho).2⟩) hT hQ hsame hcode hE, fun X fr o ho => zfq hT hsame hQ fr o (Bool.and_eq_true_iff.1 ho).1 (Bool.and_eq_true_iff.1 ho).2⟩
end
end Go.Sim
