/- Small facts on worlds for the proofs of this seat: what a call may write (Fr), and types' rows. The small functions of the document's answer: zeros, copied, IsPath. append of one element, in the forms that the walks use. What a path is: IsPath of the document's answer, isPath of the program. The document's answer in memory: what a net of it is (RefRep), and what of the world it hangs on. The document's answer: spent, fresh, equal, files. -/
import Derived.Test.YtaelaldmibgibaaGreatDoorRows
import Derived.WalkKit
import Derived.WalkSpells
import Derived.WalkLawsBesides
import Derived.Deep.AppendLies
import Derived.Deep.MidRow
import Derived.Deep.RegionWith
import Derived.Deep.RegionHeld3
import Derived.Deep.DrawnRows
import Derived.BigQuiet
import Derived.Deep.QuietTactic

set_option linter.unusedVariables false
set_option linter.unusedSimpArgs false

namespace Go.Proofs.YtaelaldmibgibaaGreatDoor
open Go.RowKit

theorem hide {p : Prop} (h : p) : Hid p := h
theorem unhide {p : Prop} (h : Hid p) : p := h
theorem below_step {w W w1 : World} (h : Below w.heap.size w W) (hb : Below W.heap.size W w1) : Below w.heap.size w w1 := h.trans (hb.mono h.size)

theorem below_held {w W w1 : World} {p : Prop} (h : Below w.heap.size w W ∧ p) (hb : Below W.heap.size W w1) : Below w.heap.size w w1 := h.1.trans (hb.mono h.1.size)

/-- From w to w' only blocks of S (and new ones) have turned. -/
structure Fr (S : Nat → Prop) (w w' : World) : Prop where
  os : w'.os = w.os
  tape : w'.tape = w.tape
  output : w'.output = w.output
  size : w.heap.size ≤ w'.heap.size
  block : ∀ k, k < w.heap.size → ¬ S k → w'.heap[k]? = w.heap[k]?

theorem Fr.refl (S : Nat → Prop) (w : World) : Fr S w w := ⟨rfl, rfl, rfl, Nat.le_refl _, fun _ _ _ => rfl⟩
theorem Fr.trans {S : Nat → Prop} {a b c : World} (h : Fr S a b) (k : Fr S b c) : Fr S a c :=
  ⟨k.os.trans h.os, k.tape.trans h.tape, k.output.trans h.output, Nat.le_trans h.size k.size, fun i hi hs => (k.block i (Nat.lt_of_lt_of_le hi h.size) hs).trans (h.block i hi hs)⟩
theorem Fr.mono {S T : Nat → Prop} {w w' : World} (h : Fr S w w') (hST : ∀ k, k < w.heap.size → S k → T k) : Fr T w w' :=
  ⟨h.os, h.tape, h.output, h.size, fun i hi hs => h.block i hi (fun q => hs (hST i hi q))⟩
/-- two steps, the second of which may write to what the first has made -/
theorem Fr.trans' {S T : Nat → Prop} {a b c : World} (h : Fr S a b) (k : Fr T b c) (hTS : ∀ i, i < a.heap.size → T i → S i) : Fr S a c :=
  ⟨k.os.trans h.os, k.tape.trans h.tape, k.output.trans h.output, Nat.le_trans h.size k.size,
    fun i hi hs => (k.block i (Nat.lt_of_lt_of_le hi h.size) (fun q => hs (hTS i hi q))).trans (h.block i hi hs)⟩
theorem Fr.of_below {S : Nat → Prop} {w w' : World} (h : Below w.heap.size w w') : Fr S w w' :=
  ⟨h.os, h.tape, h.output, h.size, fun i hi _ => h.block i hi⟩
theorem Fr.below {B : Nat} {w w' : World} (h : Fr (fun k => B ≤ k) w w') (hB : B ≤ w.heap.size) : Below B w w' :=
  ⟨h.os, h.tape, h.output, h.size, fun i hi => h.block i (by omega) (by omega)⟩
theorem Fr.below' {w w' : World} {S : Nat → Prop} (h : Fr S w w') (hS : ∀ k, k < w.heap.size → ¬ S k) : Below w.heap.size w w' :=
  ⟨h.os, h.tape, h.output, h.size, fun i hi => h.block i hi (hS i hi)⟩
theorem Fr.drew {S : Nat → Prop} {a w : World} (h : Fr S a w) : Fr S a w.drew := ⟨h.os, h.tape, h.output, h.size, h.block⟩
theorem Fr.drewN {S : Nat → Prop} {a w : World} (h : Fr S a w) (n : Nat) : Fr S a (w.drewN n) := by
  exact ⟨h.os, h.tape, h.output, h.size, h.block⟩
theorem Fr.alloc {S : Nat → Prop} {a w : World} (h : Fr S a w) (o : Obj) : Fr S a (w.alloc o) :=
  h.trans ⟨rfl, rfl, rfl, by simp, fun k hk _ => Below.heap_alloc _ _ _ hk⟩
theorem Fr.setCell {S : Nat → Prop} {a w : World} (h : Fr S a w) {p : Addr} (hp : S p.block ∨ a.heap.size ≤ p.block) (u : Value) : Fr S a (w.setCell p u) :=
  ⟨h.os, h.tape, h.output, by simpa [World.setCell] using h.size, fun k hk hs => by
    rw [Below.heap_setCell _ _ _ _ (by rintro rfl; rcases hp with hp | hp; exact hs hp; omega)]; exact h.block k hk hs⟩
theorem Fr.grown {S : Nat → Prop} {a w w' : World} {row : Option Nat} (h : Fr S a w) (hg : w.grownBy w' row) (hr : ∀ k, row = some k → S k ∨ a.heap.size ≤ k) : Fr S a w' :=
  ⟨hg.os.trans h.os, hg.tape.trans h.tape, hg.output.trans h.output, Nat.le_trans h.size hg.size, fun k hk hs => by
    rw [hg.block k (Nat.lt_of_lt_of_le hk h.size) (fun e => by rcases hr k e.symm with q | q; exact hs q; omega)]; exact h.block k hk hs⟩
theorem Fr.cell {S : Nat → Prop} {w w' : World} (h : Fr S w w') {p : Addr} (hp : p.block < w.heap.size) (hs : ¬ S p.block) : w'.cell? p = w.cell? p := World.cell?_of_block (w := w) (h.block p.block hp hs)
theorem Fr.frozen {S : Nat → Prop} {w w' : World} (h : Fr S w w') {p : Addr} (hp : p.block < w.heap.size) (hs : ¬ S p.block) : w'.frozen? p = w.frozen? p := World.frozen?_of_block (w := w) (h.block p.block hp hs)

/-- what a cell holds, as a word that simp leaves alone -/
def cv (w : World) (k j : Nat) : Value := (w.cell? ⟨k, j, none⟩).getD (.bool false)
theorem cv_eq {w : World} {k j : Nat} (h : (w.cell? ⟨k, j, none⟩).isSome = true) : w.cell? ⟨k, j, none⟩ = some (cv w k j) := by
  unfold cv
  cases hc : w.cell? ⟨k, j, none⟩ with
  | none => rw [hc] at h; cases h
  | some v => rfl

/-- behind w, with a block k of the call's own of n cells that may be written -/
structure Mine (w : World) (k n : Nat) (w' : World) : Prop where
  below : Below w.heap.size w w'
  ge : w.heap.size ≤ k
  lt : k < w'.heap.size
  some : ∀ j, j < n → (w'.cell? ⟨k, j, none⟩).isSome = true
  fz : ∀ j, w'.frozen? ⟨k, j, none⟩ = false
theorem Mine.made (w : World) (cs : Array Value) (t : TypeId) : Mine w w.heap.size cs.size (w.alloc (.cells cs t)) := by
  refine ⟨(Below.refl _ _).alloc (Nat.le_refl _) _, Nat.le_refl _, by simp, fun j hj => ?_, fun j => ?_⟩
  · simp only [World.cell?, heap_alloc_new]; simpa using hj
  · simp only [World.frozen?, heap_alloc_new]; simp
theorem Mine.made' (w : World) (cs : Array Value) (t : TypeId) {n : Nat} (h : cs.size = n) : Mine w w.heap.size n (w.alloc (.cells cs t)) := h ▸ Mine.made w cs t
theorem Mine.call {w : World} {k n : Nat} {W w1 : World} {p : Prop} (h : Mine w k n W ∧ p) (hb : Below W.heap.size W w1) : Mine w k n w1 :=
  ⟨h.1.below.trans (hb.mono h.1.below.size), h.1.ge, Nat.lt_of_lt_of_le h.1.lt hb.size, fun j hj => by rw [hb.cell h.1.lt]; exact h.1.some j hj, fun j => by rw [hb.frozen h.1.lt]; exact h.1.fz j⟩
theorem Mine.drew {w : World} {k n : Nat} {W : World} (h : Mine w k n W) : Mine w k n W.drew := ⟨h.below.drew, h.ge, h.lt, h.some, h.fz⟩
theorem Mine.drewN {w : World} {k n : Nat} {W : World} (h : Mine w k n W) (m : Nat) : Mine w k n (W.drewN m) := ⟨⟨h.below.os, h.below.tape, h.below.output, h.below.size, h.below.block⟩, h.ge, h.lt, h.some, h.fz⟩
theorem Mine.alloc {w : World} {k n : Nat} {W : World} (h : Mine w k n W) (o : Obj) : Mine w k n (W.alloc o) :=
  Mine.call (p := True) ⟨h, trivial⟩ ((Below.refl _ _).alloc (Nat.le_refl _) o)
theorem isSome_setCell {w : World} {a x : Addr} {v : Value} (h : (w.cell? a).isSome = true) : ((w.setCell x v).cell? a).isSome = true := by
  cases hc : w.cell? a with
  | none => rw [hc] at h; cases h
  | some u =>
    obtain ⟨v', hv⟩ := cell?_setCell_some (w := w) (p := x) (x := v) (q := a) (v := u) hc
    rw [hv]; rfl
theorem Mine.setCell {w : World} {k n : Nat} {W : World} (h : Mine w k n W) (x : Addr) (hx : x.block = k ∨ w.heap.size ≤ x.block) (v : Value) : Mine w k n (W.setCell x v) :=
  ⟨h.below.setCell (by have := h.ge; omega) v, h.ge, by simpa [World.setCell] using h.lt, fun j hj => isSome_setCell (h.some j hj), fun j => by rw [World.frozen?_setCell]; exact h.fz j⟩

theorem Mine.set6 {w : World} {k n : Nat} {W : World} {p : Prop} (h : Mine w k n W ∧ p) (v0 v1 v2 v3 v4 v5 : Value) :
    Mine w k n ((((((W.setCell ⟨k, 0, none⟩ v0).setCell ⟨k, 1, none⟩ v1).setCell ⟨k, 2, none⟩ v2).setCell ⟨k, 3, none⟩ v3).setCell ⟨k, 4, none⟩ v4).setCell ⟨k, 5, none⟩ v5) :=
  (((((h.1.setCell _ (.inl rfl) v0).setCell _ (.inl rfl) v1).setCell _ (.inl rfl) v2).setCell _ (.inl rfl) v3).setCell _ (.inl rfl) v4).setCell _ (.inl rfl) v5
theorem Mine.there {w : World} {k n : Nat} {W : World} (h : Mine w k n W) : W.there k 0 n := fun j hj => ⟨by simpa using h.some j hj, h.fz _⟩
theorem Below.setCells {B : Nat} {a w : World} (h : Below B a w) {b : Nat} (hp : B ≤ b) (vs : List Value) (o : Nat) : Below B a (w.setCells b o vs) := by
  induction vs generalizing o w with
  | nil => exact h
  | cons v vs ih => exact ih (h.setCell (p := ⟨b, o, none⟩) hp v) (o + 1)
theorem heap_setCells_other (w : World) (b o : Nat) (vs : List Value) (k : Nat) (h : k ≠ b) : (w.setCells b o vs).heap[k]? = w.heap[k]? := by
  induction vs generalizing o w with
  | nil => rfl
  | cons v vs ih => simp only [World.setCells]; rw [ih, Below.heap_setCell _ _ _ _ h]
theorem size_setCells (w : World) (b o : Nat) (vs : List Value) : (w.setCells b o vs).heap.size = w.heap.size := by
  induction vs generalizing o w with
  | nil => rfl
  | cons v vs ih => simp only [World.setCells]; rw [ih]; simp [World.setCell]
theorem Mine.setCells {w : World} {k n : Nat} {W : World} {p : Prop} (h : Mine w k n W ∧ p) (o : Nat) (vs : List Value) : Mine w k n (W.setCells k o vs) :=
  ⟨Below.setCells h.1.below h.1.ge vs o, h.1.ge, Nat.lt_of_lt_of_le h.1.lt (Below.setCells (Below.refl 0 W) (Nat.zero_le _) vs o).size, fun j hj => World.isSome_setCells k vs o W _ (h.1.some j hj), fun j => by rw [World.frozen?_setCells]; exact h.1.fz j⟩

/-- a row that is owned stays so where its block stays -/
theorem ownsRow_keep {w w' : World} {base : Nat} {e : TypeId} {size : Nat} {v : Value} {n : Nat} {xs : List Value} (h : w.ownsRow base e size v n xs)
    (hk : ∀ k, v.ownBlock = some k → w'.heap[k]? = w.heap[k]?) : w'.ownsRow base e size v n xs := by
  refine ⟨h.1, ?_⟩
  rcases h.2 with h0 | ⟨g, cap, cur, hv, hb, hg, r⟩
  · exact .inl h0
  · exact .inr ⟨g, cap, cur, hv, hb, by rw [hk g (by rw [hv]; rfl)]; exact hg, r⟩
theorem ownsRow_base {w : World} {base base' : Nat} {e : TypeId} {size : Nat} {v : Value} {n : Nat} {xs : List Value} (h : w.ownsRow base e size v n xs) (hb : ∀ k, v.ownBlock = some k → base' ≤ k) : w.ownsRow base' e size v n xs := by
  refine ⟨h.1, ?_⟩
  rcases h.2 with h0 | ⟨g, cap, cur, hv, _, r⟩
  · exact .inl h0
  · exact .inr ⟨g, cap, cur, hv, hb g (by rw [hv]; rfl), r⟩

theorem map_take_succ {α β : Type} (f : α → β) (l : List α) (k : Nat) (d : α) (h : k < l.length) : (l.take k).map f ++ [f (l.getD k d)] = (l.take (k + 1)).map f := by
  rw [List.take_succ_eq_append_getElem h, List.map_append]
  simp [List.getElem?_eq_getElem h]

/-- integers, strings as values -/
def ivs (l : List Int) : List Value := l.map (Value.int .i64)
def svs (l : List ByteArray) : List Value := l.map Value.string
theorem ivs_snoc (l : List Int) (k : Nat) (h : k < l.length) : ivs (l.take k) ++ [.int .i64 (l.getD k 0)] = ivs (l.take (k + 1)) := map_take_succ _ l k 0 h
theorem svs_snoc (l : List ByteArray) (k : Nat) (h : k < l.length) : svs (l.take k) ++ [.string (l.getD k .empty)] = svs (l.take (k + 1)) := map_take_succ _ l k .empty h
theorem ivs_get (l : List Int) (k : Nat) (h : k < l.length) : (ivs l)[k]? = some (.int .i64 (l.getD k 0)) := by simp [ivs, List.getElem?_eq_getElem h]
theorem svs_get (l : List ByteArray) (k : Nat) (h : k < l.length) : (svs l)[k]? = some (.string (l.getD k .empty)) := by simp [svs, List.getElem?_eq_getElem h]
theorem ivs_length (l : List Int) : (ivs l).length = l.length := by simp [ivs]
theorem svs_length (l : List ByteArray) : (svs l).length = l.length := by simp [svs]
theorem ivs_append (a b : List Int) : ivs (a ++ b) = ivs a ++ ivs b := by simp [ivs]
theorem svs_append (a b : List ByteArray) : svs (a ++ b) = svs a ++ svs b := by simp [svs]
theorem ivs_set (l : List Int) (k : Nat) (x : Int) : (ivs l).set k (.int .i64 x) = ivs (l.set k x) := by simp [ivs, List.map_set]

/-- a result that lies in memory -/
theorem ret_cell1 {P : Program} {fn : Func} {p : Tmp} {ty : TypeId} (h : fn.results = #[.cell p ty]) {tmps : Array Value} {a : Addr} (ha : tmps.getD p undef = .pointer (some a)) {w : World} {v : Value}
    (hl : (loadVar ty a).run P w = .ok v w) : (results fn tmps).run P w = .ok v w := by
  have ha' : tmps[p]?.getD undef = .pointer (some a) := by simpa using ha
  simp only [results, h]
  simp [ha', asAddr, hl]
theorem ret_cell_tmp {P : Program} {fn : Func} {p u : Tmp} {ty : TypeId} (h : fn.results = #[.cell p ty, .tmp u]) {tmps : Array Value} {a : Addr} (ha : tmps.getD p undef = .pointer (some a)) {w : World} {v : Value}
    (hl : (loadVar ty a).run P w = .ok v w) : (results fn tmps).run P w = .ok (.tuple #[v, tmps.getD u undef]) w := by
  have ha' : tmps[p]?.getD undef = .pointer (some a) := by simpa using ha
  simp only [results, h]
  simp [Result.andThen, ha', asAddr, hl]
/-- what was stored whole is loaded whole -/
theorem load_stored {P : Program} {w : World} {b : Nat} {ty : TypeId} {cs : List Value} {d : TypeDesc} (ht : w.there b 0 cs.length) (hu : P.underlying ty = some d) (hd : d.isRow = true) (hi : (P.info? ty).map (·.size) = some cs.length) :
    (loadVar ty ⟨b, 0, none⟩).run P (w.setCells b 0 cs) = .ok (.agg cs.toArray) (w.setCells b 0 cs) :=
  run_loadVar_mid _ b 0 ty cs d (World.rangeAt_setCells_same w b 0 cs ht) hu hd hi

theorem size_Spot : (Tryz.prog.info? 117).map (·.size) = some 6 := by kernel_rfl
theorem info_int : (Tryz.prog.info? 3).map (fun i => (i.zero, i.size, i.bytes)) = some (some (.int .i64 0), 1, 8) := by kernel_rfl
theorem info_string : (Tryz.prog.info? 9).map (fun i => (i.zero, i.size, i.bytes)) = some (some (.string .empty), 1, 16) := by kernel_rfl

end Go.Proofs.YtaelaldmibgibaaGreatDoor

namespace Go.Proofs.YtaelaldmibgibaaGreatDoor
open Go.RowKit

set_option maxHeartbeats 400000 in
theorem zeros_any (n : Nat) (hn : n ≤ 6) (w : World) :
    Calls Tryz.prog 49 #[.int .i64 n] w fun e w' => ∃ v, e = .returned v ∧ w'.ownsRow w.heap.size 3 1 v n (List.replicate n (.int .i64 0)) ∧ Below w.heap.size w w' := by
  obtain ⟨i0, hi, hz0, hz1, hz2⟩ := info_parts info_int
  go_enter Tryz.func49, Tryz.ntmps49
  go_wp2
  go_loopw [3, 4] (fun v i wr => ∃ k : Nat, k ≤ n ∧ i = .int .i64 k ∧ wr.ownsRow w.heap.size 3 1 v k (List.replicate k (.int .i64 0)) ∧ Below w.heap.size w wr) (fun _ i _ => n - (intOf i).toNat)
  case atStart => exact ⟨0, Nat.zero_le _, rfl, World.ownsRow_nil _ _ _ _, Below.refl _ _⟩
  case round =>
    obtain ⟨k, hk, rfl, hown, hb⟩ := hrel
    by_cases hlt : k < n
    · go_wp2_with (at_builtin; refine wpList_append_own _ rfl _ _ 58 rfl w.heap.size 3 i0 (.int .i64 0) 1 8 Tryz.underlying58 hi hz0 hz1 hz2 rfl (by decide) _ _ _ rfl (hown.alloc _) ⟨wr.heap.size, 0, none⟩ 1 1 [.int .i64 0] rfl rfl ?c1 ?c2 ?c3 ?c4 ?c5 ?_)
      case c1 =>
        intro j u hj
        match j, hj with
        | 0, hj => simp at hj; subst hj; simp [Addr.add]
      case c2 => intro u hu; simp at hu; subst hu; rfl
      case c3 => unfold maxLen; omega
      case c4 => omega
      case c5 => have := hb.size; simp; omega
      intro v' w1 hown' hgrow _
      have hb' : Below w.heap.size w w1 := (hb.alloc hb.size _).grown hgrow (by have := hb.size; simp; omega) (fun q hq => (hown.lt q hq).1)
      have e1 : List.replicate k (Value.int .i64 0) ++ [.int .i64 0] = List.replicate (k + 1) (.int .i64 0) := by rw [List.replicate_succ']
      rw [e1] at hown'
      clear hgrow hown hb e1
      go_wp2
      go_roundw
      case rel => exact ⟨k + 1, by omega, by go_num, hown', hb'⟩
      case measure => simp [intOf]; omega
    · have e : k = n := by omega
      subst e
      go_wp2
      go_ret
      exact ⟨_, rfl, hown, hb⟩

/-- v is a slice of just these integers, at the head of a block. -/
def intRow (w : World) (v : Value) (l : List Int) : Prop := w.ownsRow 0 3 1 v l.length (ivs l)

theorem intRow.form {w : World} {v : Value} {l : List Int} (h : intRow w v l) (h0 : 0 < l.length) :
    ∃ g cap, v = .slice (some ⟨g, 0, none⟩) l.length cap ∧ g < w.heap.size ∧ (∀ k, k < l.length → w.cell? ⟨g, k, none⟩ = some (.int .i64 (l.getD k 0))) ∧ (∀ k, w.frozen? ⟨g, k, none⟩ = false) ∧ l.length ≤ maxLen := by
  have hm : l.length ≤ maxLen := by
    rcases h.2 with ⟨_, h1⟩ | ⟨g, cap, cur, hv, _, hg, hc, hm, _⟩
    · omega
    · omega
  obtain ⟨g, cap, rfl, _, hlt⟩ := World.ownsRow.form h h0
  refine ⟨g, cap, rfl, hlt, fun k hk => ?_, fun k => World.ownsRow.frozenAt h k, hm⟩
  rw [World.ownsRow.cellAt h k (by omega)]
  exact ivs_get l k hk

set_option maxHeartbeats 400000 in
theorem copied_any (v : Value) (l : List Int) (w : World) (h : intRow w v l) (h0 : 0 < l.length) (h6 : l.length ≤ 6) :
    Calls Tryz.prog 153 #[v] w fun e w' => ∃ v', e = .returned v' ∧ w'.ownsRow w.heap.size 3 1 v' l.length (ivs l) ∧ Below w.heap.size w w' := by
  obtain ⟨i0, hi, hz0, hz1, hz2⟩ := info_parts info_int
  obtain ⟨g, cap, rfl, hg, hc, _, _⟩ := h.form h0
  clear h
  generalize hn : l.length = n at *
  go_enter Tryz.func153, Tryz.ntmps153
  go_wp2
  go_loopw [3, 4] (fun v i wr => ∃ k : Nat, k ≤ n ∧ i = .int .i64 k ∧ wr.ownsRow w.heap.size 3 1 v k (ivs (l.take k)) ∧ Below w.heap.size w wr) (fun _ i _ => n - (intOf i).toNat)
  case atStart => exact ⟨0, Nat.zero_le _, rfl, World.ownsRow_nil _ _ _ _, Below.refl _ _⟩
  case round =>
    obtain ⟨k, hk, rfl, hown, hb⟩ := hrel
    by_cases hlt : k < n
    · have hcx : wr.cell? ⟨g, k, none⟩ = some (.int .i64 (l.getD k 0)) := (hb.cell (p := ⟨g, k, none⟩) hg).trans (hc k hlt)
      generalize hx : l.getD k 0 = x at hcx
      have HX : Hid (l.getD k 0 = x) := hx
      have HN : Hid (l.length = n) := hn
      clear hx hn hc
      go_wp2_with (at_builtin; refine wpList_append_own _ rfl _ _ 58 rfl w.heap.size 3 i0 (.int .i64 0) 1 8 Tryz.underlying58 hi hz0 hz1 hz2 rfl (by decide) _ _ _ rfl (hown.alloc _) ⟨wr.heap.size, 0, none⟩ 1 1 [.int .i64 x] rfl rfl ?c1 ?c2 ?c3 ?c4 ?c5 ?_)
      case c1 =>
        intro j u hj
        match j, hj with
        | 0, hj => simp at hj; subst hj; simp [Addr.add]
      case c2 => intro u hu; simp at hu; subst hu; rfl
      case c3 => unfold maxLen; omega
      case c4 => omega
      case c5 => have := hb.size; simp; omega
      intro v' w1 hown' hgrow _
      have hb' : Below w.heap.size w w1 := (hb.alloc hb.size _).grown hgrow (by have := hb.size; simp; omega) (fun q hq => (hown.lt q hq).1)
      have e1 : ivs (List.take k l) ++ [.int .i64 x] = ivs (List.take (k + 1) l) := by
        rw [← HX.out]; exact ivs_snoc l k (by rw [HN.out]; exact hlt)
      rw [e1] at hown'
      clear hgrow hown hb e1 hcx
      go_wp2
      go_roundw
      case rel => exact ⟨k + 1, by omega, by go_num, hown', hb'⟩
      case measure => simp [intOf]; omega
    · have e : k = n := by omega
      subst e
      clear hc
      rw [List.take_of_length_le (by omega)] at hown
      clear hn
      go_wp2
      go_ret
      exact ⟨_, rfl, hown, hb⟩

/-- What a path is. -/
def pathByte (c : UInt8) : Bool := c == 47 || (decide (97 ≤ c) && decide (c ≤ 122))
def pathOk (s : ByteArray) : Bool := decide (1 ≤ s.size ∧ s.size ≤ 12) && s.data.toList.all pathByte

end Go.Proofs.YtaelaldmibgibaaGreatDoor

namespace Go.Proofs.YtaelaldmibgibaaGreatDoor
open Go.RowKit

theorem info_Spot : (Tryz.prog.info? 117).map (fun i => (i.zero, i.size, i.bytes)) = some (some (.agg #[.bool false, .string ⟨#[]⟩, .int .i64 0, .int .i64 0, .slice none 0 0, .slice none 0 0]), 6, 88) := by kernel_rfl

section
variable {ops : Array Oper} {rest : List Oper} {o : Oper} {a : Act} {Q : Exit → Act → World → Prop} (w : World)

/-- l = append(l, y), of strings; y lies in a block of its own -/
theorem app_str (hgd : o.guard = none) (s x : Operand) (ho : o.op = .call { callee := .builtin .append, args := #[s, x], argTypes := #[25, 25] }) (base : Nat) (v : Value) (n : Nat) (xs : List Value) (hs : a.eval s = v) (hown : w.ownsRow base 9 1 v n xs)
    (k : Nat) (y : ByteArray) (hx : a.eval x = .slice (some ⟨k, 0, none⟩) 1 1) (hc : w.cell? ⟨k, 0, none⟩ = some (.string y)) (hn : n ≤ 1000000000000) (hb : base ≤ w.heap.size)
    (h : ∀ g cap w1, w1.ownsRow base 9 1 (.slice (some ⟨g, 0, none⟩) (n + 1) cap) (n + 1) (xs ++ [.string y]) → w.grownBy w1 v.ownBlock → (v.ownBlock = some g ∨ g = w.heap.size) → g < w1.heap.size → wpList Tryz.prog ops Q rest (a.put o.dst (.slice (some ⟨g, 0, none⟩) (n + 1) cap)) w1) :
    wpList Tryz.prog ops Q (o :: rest) a w := by
  obtain ⟨i0, hi, hz0, hz1, hz2⟩ := info_parts info_string
  refine wpList_append_lies w hgd s x 25 ho base 9 i0 _ 1 16 Tryz.underlying25 hi hz0 hz1 hz2 rfl (by decide) v n xs hs hown ⟨k, 0, none⟩ 1 1 [.string y] hx rfl ?_ ?_ (by omega) (by unfold maxLen; omega) (by omega) hb _ rfl h
  · intro j u hj
    match j, hj with
    | 0, hj => simp at hj; subst hj; simpa [Addr.add] using hc
  · intro u hu; simp at hu; subst hu; rfl

/-- l = append(l, y), of spots -/
theorem app_spot (hgd : o.guard = none) (s x : Operand) (ho : o.op = .call { callee := .builtin .append, args := #[s, x], argTypes := #[112, 112] }) (base : Nat) (v : Value) (n : Nat) (xs : List Value) (hs : a.eval s = v) (hown : w.ownsRow base 117 6 v n xs)
    (k : Nat) (y0 : Bool) (y1 : ByteArray) (y2 y3 : Int) (a4 a5 : Option Addr) (n4 n5 c4 c5 : Nat) (hx : a.eval x = .slice (some ⟨k, 0, none⟩) 1 1)
    (hc : w.heap[k]? = some (.cells #[.bool y0, .string y1, .int .i64 y2, .int .i64 y3, .slice a4 n4 c4, .slice a5 n5 c5] 117)) (hn : n ≤ 1000000000000) (hb : base ≤ w.heap.size)
    (h : ∀ g cap w1, w1.ownsRow base 117 6 (.slice (some ⟨g, 0, none⟩) (n + 1) cap) (n + 1) (xs ++ [.bool y0, .string y1, .int .i64 y2, .int .i64 y3, .slice a4 n4 c4, .slice a5 n5 c5]) → w.grownBy w1 v.ownBlock → (v.ownBlock = some g ∨ g = w.heap.size) → g < w1.heap.size → wpList Tryz.prog ops Q rest (a.put o.dst (.slice (some ⟨g, 0, none⟩) (n + 1) cap)) w1) :
    wpList Tryz.prog ops Q (o :: rest) a w := by
  obtain ⟨i0, hi, hz0, hz1, hz2⟩ := info_parts info_Spot
  refine wpList_append_lies w hgd s x 112 ho base 117 i0 _ 6 88 Tryz.underlying112 hi hz0 hz1 hz2 rfl (by decide) v n xs hs hown ⟨k, 0, none⟩ 1 1 _ hx rfl ?_ ?_ (by omega) (by unfold maxLen; omega) (by omega) hb _ rfl h
  · exact World.news_of_block hc
  · intro u hu; simp at hu; rcases hu with rfl | rfl | rfl | rfl | rfl | rfl <;> rfl

end

/-- behind such an append: what lies in other blocks -/
theorem grown_below {w W w1 : World} {v : Value} (hb : Below w.heap.size w W) (hg : W.grownBy w1 v.ownBlock) (hv : ∀ k, v.ownBlock = some k → w.heap.size ≤ k) : Below w.heap.size w w1 :=
  hb.grown hg hb.size hv

end Go.Proofs.YtaelaldmibgibaaGreatDoor

namespace Go.Proofs.YtaelaldmibgibaaGreatDoor
open Go.RowKit

theorem ret_bool {a b : Bool} (h : a = b) : Ending.returned (.bool a) = .returned (.bool b) := by rw [h]
theorem ret_int {k : IntKind} {a b : Int} (h : a = b) : Ending.returned (.int k a) = .returned (.int k b) := by rw [h]

theorem all_take_succ (s : ByteArray) (k : Nat) (h : k < s.size) (ha : (s.data.toList.take k).all pathByte = true) (hb : pathByte s[k] = true) :
    (s.data.toList.take (k + 1)).all pathByte = true := by
  have hl : k < s.data.toList.length := by simpa using h
  rw [List.take_succ_eq_append_getElem hl, List.all_append, ha]
  simp only [List.all_cons, List.all_nil, Bool.and_true, Bool.true_and]
  exact hb
theorem pathOk_end (s : ByteArray) (k : Nat) (h : ¬ k < s.size) (ha : (s.data.toList.take k).all pathByte = true) : s.data.toList.all pathByte = true := by
  have hl : s.data.toList.length ≤ k := by rw [Array.length_toList]; exact Nat.le_of_not_lt h
  rwa [List.take_of_length_le hl] at ha
theorem pathOk_bad (s : ByteArray) (k : Nat) (h : k < s.size) (hb : pathByte s[k] = false) : pathOk s = false := by
  unfold pathOk
  have : s.data.toList.all pathByte = false := by
    rw [List.all_eq_false]
    exact ⟨s[k], Array.getElem_mem_toList (by exact h), by rw [hb]; simp⟩
  rw [this, Bool.and_false]
theorem pathByte_yes {c : UInt8} (h : (c.toNat : Int) = 47 ∨ ((97 : Int) ≤ c.toNat ∧ (c.toNat : Int) ≤ 122)) : pathByte c = true := by
  unfold pathByte
  rcases h with h | h
  · have : c = 47 := UInt8.toNat_inj.1 (by simp; omega)
    simp [this]
  · have h1 : 97 ≤ c := by rw [UInt8.le_iff_toNat_le]; simp; omega
    have h2 : c ≤ 122 := by rw [UInt8.le_iff_toNat_le]; simp; omega
    simp [h1, h2]
theorem pathByte_no {c : UInt8} (h : (c.toNat : Int) ≠ 47) (h' : (c.toNat : Int) < 97 ∨ (122 : Int) < c.toNat) : pathByte c = false := by
  unfold pathByte
  have h0 : (c == 47) = false := by
    rw [beq_eq_false_iff_ne]; rintro rfl; simp at h
  rcases h' with h' | h'
  · have h1 : ¬ 97 ≤ c := by rw [UInt8.le_iff_toNat_le]; simp; omega
    simp [h0, h1]
  · have h1 : ¬ c ≤ 122 := by rw [UInt8.le_iff_toNat_le]; simp; omega
    simp [h0, h1]

set_option maxHeartbeats 400000 in
theorem IsPath_any (s : ByteArray) (w : World) (hs : s.size ≤ maxLen) :
    Calls Tryz.prog 156 #[.string s] w fun e w' => e = .returned (.bool (pathOk s)) ∧ w' = w := by
  unfold maxLen at hs
  go_enter Tryz.func156, Tryz.ntmps156
  go_wp2
  go_loop [3] (fun i => ∃ k : Nat, k ≤ s.size ∧ i = .int .i64 k ∧ Hid ((s.data.toList.take k).all pathByte = true)) (fun i => s.size - (intOf i).toNat)
  case atStart => exact ⟨0, Nat.zero_le _, rfl, by unfold Hid; simp⟩
  case round =>
    obtain ⟨k, hk, rfl, ha⟩ := hrel
    by_cases hlt : k < s.size
    · have ha' := fun h => all_take_succ s k hlt ha h
      have hbad := pathOk_bad s k hlt
      have hy := @pathByte_yes s[k]
      have hno := @pathByte_no s[k]
      have Y : Hid (((s[k].toNat : Int) = 47 ∨ ((97 : Int) ≤ s[k].toNat ∧ (s[k].toNat : Int) ≤ 122)) → (s.data.toList.take (k + 1)).all pathByte = true) := fun h => ha' (hy h)
      have N : Hid ((s[k].toNat : Int) ≠ 47 → ((s[k].toNat : Int) < 97 ∨ (122 : Int) < s[k].toNat) → pathOk s = false) := fun h h' => hbad (hno h h')
      clear ha' hbad hy hno
      have rr : ∀ b, b = pathOk s → Ending.returned (.bool b) = .returned (.bool (pathOk s)) := fun b h => by rw [h]
      by_cases h1 : (s[k].toNat : Int) = 47
      · go_wp2
        go_round
        case rel => exact ⟨k + 1, by omega, by go_num, Y.out (.inl h1)⟩
        case measure => simp [intOf]; omega
      · by_cases h2 : (s[k].toNat : Int) < 97
        · have hN := N.out h1 (.inl h2)
          have HN : Hid (false = pathOk s) := hN.symm
          clear hN N Y
          go_wp2
          go_ret
          exact ⟨rr _ HN.out, rfl⟩
        · by_cases h3 : (122 : Int) < s[k].toNat
          · have hN := N.out h1 (.inr h3)
            have HN : Hid (false = pathOk s) := hN.symm
            clear hN N Y
            go_wp2
            go_ret
            exact ⟨rr _ HN.out, rfl⟩
          · have hY := Y.out (.inr ⟨by omega, by omega⟩)
            have HY : Hid ((s.data.toList.take (k + 1)).all pathByte = true) := hY
            clear hY N Y
            go_wp2
            go_round
            case rel => exact ⟨k + 1, by omega, by go_num, HY⟩
            case measure => simp [intOf]; omega
    · have he : Hid (∀ b, b = decide (1 ≤ s.size ∧ s.size ≤ 12) → Ending.returned (.bool b) = .returned (.bool (pathOk s))) := fun b h => by rw [h, pathOk, pathOk_end s k hlt ha, Bool.and_true]
      by_cases h1 : 1 ≤ s.size
      · go_wp2
        go_ret
        exact ⟨he.out _ (by rw [Bool.eq_iff_iff]; simp; omega), rfl⟩
      · go_wp2
        go_ret
        exact ⟨he.out _ (by rw [Bool.eq_iff_iff]; simp; omega), rfl⟩

set_option maxHeartbeats 400000 in
theorem isPathByte_any (c : UInt8) (w : World) :
    Calls Tryz.prog 167 #[.int .u8 c.toNat] w fun e w' => e = .returned (.bool (pathByte c)) ∧ w' = w := by
  have rr : Hid (∀ b, b = pathByte c → Ending.returned (.bool b) = .returned (.bool (pathByte c))) := fun b h => by rw [h]
  have Y : Hid (((c.toNat : Int) = 47 ∨ ((97 : Int) ≤ c.toNat ∧ (c.toNat : Int) ≤ 122)) → pathByte c = true) := pathByte_yes
  have N : Hid ((c.toNat : Int) ≠ 47 → ((c.toNat : Int) < 97 ∨ (122 : Int) < c.toNat) → pathByte c = false) := pathByte_no
  generalize hx : (c.toNat : Int) = x at *
  clear hx
  by_cases h1 : x = 47
  · have hb : (x == 47) = true := by simp [h1]
    go_enter Tryz.func167, Tryz.ntmps167
    go_wp2
    go_ret
    exact ⟨rr.out _ (Y.out (.inl h1)).symm, rfl⟩
  · have hb : (x == 47) = false := by simp [h1]
    by_cases h2 : 97 ≤ x
    · by_cases h3 : x ≤ 122
      · go_enter Tryz.func167, Tryz.ntmps167
        go_wp2
        go_ret
        exact ⟨rr.out _ (by rw [Y.out (.inr ⟨h2, h3⟩)]), rfl⟩
      · go_enter Tryz.func167, Tryz.ntmps167
        go_wp2
        go_ret
        exact ⟨rr.out _ (by rw [N.out h1 (.inr (by omega))]), rfl⟩
    · go_enter Tryz.func167, Tryz.ntmps167
      go_wp2
      go_ret
      exact ⟨rr.out _ (N.out h1 (.inl (by omega))).symm, rfl⟩

set_option maxHeartbeats 400000 in
theorem isPath_any (s : ByteArray) (w : World) (hs : s.size ≤ maxLen) :
    Calls Tryz.prog 103 #[.string s] w fun e w' => e = .returned (.bool (pathOk s)) ∧ w' = w := by
  unfold maxLen at hs
  by_cases hlen : 1 ≤ s.size ∧ s.size ≤ 12
  · obtain ⟨hl1, hl2⟩ := hlen
    have d1 : decide ((s.size : Int) < 1) = false := by simp; omega
    have d2 : decide ((12 : Int) < (s.size : Int)) = false := by simp; omega
    go_enter Tryz.func103, Tryz.ntmps103
    go_wp2
    clear d1 d2
    go_loop [14] (fun i => ∃ k : Nat, k ≤ s.size ∧ i = .int .i64 k ∧ Hid ((s.data.toList.take k).all pathByte = true)) (fun i => s.size - (intOf i).toNat)
    case atStart => exact ⟨0, Nat.zero_le _, rfl, by unfold Hid; simp⟩
    case round =>
      obtain ⟨k, hk, rfl, ha⟩ := hrel
      by_cases hlt : k < s.size
      · have ha' : Hid (pathByte s[k] = true → (s.data.toList.take (k + 1)).all pathByte = true) := fun h => all_take_succ s k hlt ha h
        have hbad : Hid (pathByte s[k] = false → Ending.returned (.bool false) = .returned (.bool (pathOk s))) := fun h => by rw [pathOk_bad s k hlt h]
        cases hp : pathByte s[k] with
        | true =>
          have HP := ha'.out hp
          have HY : Hid ((s.data.toList.take (k + 1)).all pathByte = true) := HP
          clear HP ha' hbad
          go_wp2_with (go_at_call 167; refine (isPathByte_any _ _).mono ?_; rintro e w' ⟨rfl, rfl⟩)
          go_round
          case rel => exact ⟨k + 1, by omega, by go_num, HY⟩
          case measure => simp [intOf]; omega
        | false =>
          have HP := hbad.out hp
          have HY : Hid (Ending.returned (.bool false) = .returned (.bool (pathOk s))) := HP
          clear HP ha' hbad
          go_wp2_with (go_at_call 167; refine (isPathByte_any _ _).mono ?_; rintro e w' ⟨rfl, rfl⟩)
          go_ret
          exact ⟨HY.out, rfl⟩
      · have he : Hid (Ending.returned (.bool true) = .returned (.bool (pathOk s))) := by
          unfold Hid
          rw [pathOk, pathOk_end s k hlt ha, Bool.and_true]
          simp [hl1, hl2]
        go_wp2
        go_ret
        exact ⟨he.out, rfl⟩
  · have he : Hid (Ending.returned (.bool false) = .returned (.bool (pathOk s))) := by
      unfold Hid
      rw [pathOk, decide_eq_false hlen, Bool.false_and]
    by_cases h1 : s.size < 1
    · have d1 : decide ((s.size : Int) < 1) = true := by simp; omega
      go_enter Tryz.func103, Tryz.ntmps103
      go_wp2
      go_ret
      exact ⟨he.out, rfl⟩
    · have d1 : decide ((s.size : Int) < 1) = false := by simp; omega
      have d2 : decide ((12 : Int) < (s.size : Int)) = true := by simp; omega
      go_enter Tryz.func103, Tryz.ntmps103
      go_wp2
      go_ret
      exact ⟨he.out, rfl⟩

theorem num_any (x : Int) (w : World) : Calls Tryz.prog 27 #[.int .i64 x] w fun e w' => e = .returned (.int .i64 x) ∧ w' = w := by
  go_enter Tryz.func27, Tryz.ntmps27
  go_wp2
  go_ret
  exact ⟨rfl, rfl⟩

end Go.Proofs.YtaelaldmibgibaaGreatDoor

namespace Go.Proofs.YtaelaldmibgibaaGreatDoor
open Go.RowKit

theorem zeros_form (n : Nat) (h1 : 1 ≤ n) (hn : n ≤ 6) (w : World) :
    Calls Tryz.prog 49 #[.int .i64 n] w fun e w' => ∃ g cap, e = .returned (.slice (some ⟨g, 0, none⟩) n cap) ∧ w'.ownsRow w.heap.size 3 1 (.slice (some ⟨g, 0, none⟩) n cap) n (ivs (List.replicate n 0)) ∧ w.heap.size ≤ g ∧ g < w'.heap.size ∧ Below w.heap.size w w' := by
  refine (zeros_any n hn w).mono ?_
  rintro e w' ⟨v, rfl, ho, hb⟩
  obtain ⟨g, cap, rfl, hg, hlt⟩ := World.ownsRow.form ho (by omega)
  exact ⟨g, cap, rfl, by simpa [ivs] using ho, hg, hlt, hb⟩
theorem copied_form (v : Value) (l : List Int) (w : World) (h : intRow w v l) (h0 : 0 < l.length) (h6 : l.length ≤ 6) :
    Calls Tryz.prog 153 #[v] w fun e w' => ∃ g cap, e = .returned (.slice (some ⟨g, 0, none⟩) l.length cap) ∧ w'.ownsRow w.heap.size 3 1 (.slice (some ⟨g, 0, none⟩) l.length cap) l.length (ivs l) ∧ w.heap.size ≤ g ∧ g < w'.heap.size ∧ Below w.heap.size w w' := by
  refine (copied_any v l w h h0 h6).mono ?_
  rintro e w' ⟨v, rfl, ho, hb⟩
  obtain ⟨g, cap, rfl, hg, hlt⟩ := World.ownsRow.form ho (by omega)
  exact ⟨g, cap, rfl, ho, hg, hlt, hb⟩

/-- A spot: what its cells hold, and what its two lists hold. -/
structure SP where
  there : Bool
  text : ByteArray
  by_ : Int
  num : Int
  chv : Value
  ch : List Int
  tmv : Value
  tm : List Int

def SP.cells (s : SP) : List Value := [.bool s.there, .string s.text, .int .i64 s.by_, .int .i64 s.num, s.chv, s.tmv]
def spv : List SP → List Value
  | [] => []
  | s :: l => s.cells ++ spv l

theorem spv_append (a b : List SP) : spv (a ++ b) = spv a ++ spv b := by
  induction a with
  | nil => rfl
  | cons s a ih => simp [spv, ih]
theorem spv_length (l : List SP) : (spv l).length = l.length * 6 := by
  induction l with
  | nil => rfl
  | cons s l ih => simp [spv, ih, SP.cells]; omega
theorem spv_get (l : List SP) (i : Nat) (s : SP) (h : l[i]? = some s) (j : Nat) (hj : j < 6) : (spv l)[i * 6 + j]? = s.cells[j]? := by
  induction l generalizing i with
  | nil => simp at h
  | cons x l ih =>
    have hx : x.cells.length = 6 := rfl
    cases i with
    | zero =>
      simp at h; subst h
      simp only [spv, Nat.zero_mul, Nat.zero_add]
      rw [List.getElem?_append_left (by omega)]
    | succ i =>
      simp at h
      simp only [spv]
      rw [List.getElem?_append_right (by omega), ← ih i h]
      congr 1; omega

/-- All that a net of the document's answer holds. -/
structure RS where
  n : Nat
  paths : List ByteArray
  pv : Value
  cv : Value
  sv : Value
  coms : List (Value × List Int)
  rows : List (Value × List SP)

def role (ρ : Nat → Nat × Nat) (v : Value) (x : Nat × Nat) : Prop := ∀ k, v.ownBlock = some k → ρ k = x

structure SpOk (w : World) (ρ : Nat → Nat × Nat) (n r : Nat) (s : SP) : Prop where
  ch : intRow w s.chv s.ch
  chl : s.ch.length = n
  chr : role ρ s.chv (6, 0)
  tm : intRow w s.tmv s.tm
  tml : s.tm.length = n
  tmr : role ρ s.tmv (7, r)

structure RefRep (w : World) (b : Nat) (ρ : Nat → Nat × Nat) (S : RS) : Prop where
  net : w.heap[b]? = some (.cells #[.int .i64 S.n, S.pv, S.cv, S.sv] 103 (0, 0))
  n1 : 1 ≤ S.n
  n6 : S.n ≤ 6
  p : w.ownsRow 0 9 1 S.pv S.paths.length (svs S.paths)
  c : w.ownsRow 0 58 1 S.cv S.n (S.coms.map (·.1))
  s : w.ownsRow 0 112 1 S.sv S.n (S.rows.map (·.1))
  com : ∀ r x, S.coms[r]? = some x → intRow w x.1 x.2 ∧ x.2.length = S.n ∧ role ρ x.1 (4, r)
  row : ∀ r x, S.rows[r]? = some x → w.ownsRow 0 117 6 x.1 x.2.length (spv x.2) ∧ role ρ x.1 (5, r)
  sp : ∀ r x, S.rows[r]? = some x → ∀ y ∈ x.2, SpOk w ρ S.n r y
  rb : ρ b = (1, 0)
  rp : role ρ S.pv (2, 0)
  rc : role ρ S.cv (3, 0)
  rs : role ρ S.sv (8, 0)
  lt : ∀ k, (ρ k).1 ≠ 0 → k < w.heap.size

theorem RefRep.coml {w b ρ S} (h : RefRep w b ρ S) : S.coms.length = S.n := by simpa using h.c.1
theorem RefRep.rowl {w b ρ S} (h : RefRep w b ρ S) : S.rows.length = S.n := by simpa using h.s.1

theorem SpOk.keep {w w' : World} {ρ : Nat → Nat × Nat} {n r : Nat} {s : SP} (h : SpOk w ρ n r s) (hk : ∀ k, (ρ k).1 ≠ 0 → w'.heap[k]? = w.heap[k]?) : SpOk w' ρ n r s :=
  ⟨ownsRow_keep h.ch (fun k e => hk k (by rw [h.chr k e]; decide)), h.chl, h.chr, ownsRow_keep h.tm (fun k e => hk k (by rw [h.tmr k e]; simp)), h.tml, h.tmr⟩

/-- a net stays what it is where its blocks stay -/
theorem RefRep.keep {w w' : World} {b : Nat} {ρ : Nat → Nat × Nat} {S : RS} (h : RefRep w b ρ S) (hs : w.heap.size ≤ w'.heap.size) (hk : ∀ k, (ρ k).1 ≠ 0 → w'.heap[k]? = w.heap[k]?) : RefRep w' b ρ S where
  net := by rw [hk b (by rw [h.rb]; decide)]; exact h.net
  n1 := h.n1
  n6 := h.n6
  p := ownsRow_keep h.p (fun k e => hk k (by rw [h.rp k e]; decide))
  c := ownsRow_keep h.c (fun k e => hk k (by rw [h.rc k e]; decide))
  s := ownsRow_keep h.s (fun k e => hk k (by rw [h.rs k e]; decide))
  com := fun r x hx => ⟨ownsRow_keep (h.com r x hx).1 (fun k e => hk k (by rw [(h.com r x hx).2.2 k e]; simp)), (h.com r x hx).2⟩
  row := fun r x hx => ⟨ownsRow_keep (h.row r x hx).1 (fun k e => hk k (by rw [(h.row r x hx).2 k e]; simp)), (h.row r x hx).2⟩
  sp := fun r x hx y hy => (h.sp r x hx y hy).keep hk
  rb := h.rb
  rp := h.rp
  rc := h.rc
  rs := h.rs
  lt := fun k hk' => Nat.lt_of_lt_of_le (h.lt k hk') hs

theorem RefRep.fr {w w' : World} {b : Nat} {ρ : Nat → Nat × Nat} {S : RS} {F : Nat → Prop} (h : RefRep w b ρ S) (hf : Fr F w w') (hd : ∀ k, (ρ k).1 ≠ 0 → ¬ F k) : RefRep w' b ρ S :=
  h.keep hf.size (fun k hk => hf.block k (h.lt k hk) (hd k hk))
theorem RefRep.below {w w' : World} {b : Nat} {ρ : Nat → Nat × Nat} {S : RS} (h : RefRep w b ρ S) (hf : Below w.heap.size w w') : RefRep w' b ρ S :=
  h.keep hf.size (fun k hk => hf.block k (h.lt k hk))

/-- the cells of the net's own block -/
theorem RefRep.c0 {w b ρ S} (h : RefRep w b ρ S) : w.cell? ⟨b, 0, none⟩ = some (.int .i64 S.n) := by simp [World.cell?, h.net]
theorem RefRep.c1 {w b ρ S} (h : RefRep w b ρ S) : w.cell? ⟨b, 1, none⟩ = some S.pv := by simp [World.cell?, h.net]
theorem RefRep.c2 {w b ρ S} (h : RefRep w b ρ S) : w.cell? ⟨b, 2, none⟩ = some S.cv := by simp [World.cell?, h.net]
theorem RefRep.c3 {w b ρ S} (h : RefRep w b ρ S) : w.cell? ⟨b, 3, none⟩ = some S.sv := by simp [World.cell?, h.net]

/-- the common time of a replica, down to its numbers -/
theorem RefRep.common {w b ρ S} (h : RefRep w b ρ S) (r : Nat) (hr : r < S.n) :
    ∃ cg cc g cap l, S.cv = .slice (some ⟨cg, 0, none⟩) S.n cc ∧ w.cell? ⟨cg, r, none⟩ = some (.slice (some ⟨g, 0, none⟩) S.n cap) ∧ S.coms[r]? = some (.slice (some ⟨g, 0, none⟩) S.n cap, l) ∧
      l.length = S.n ∧ ρ g = (4, r) ∧ g < w.heap.size ∧ cg < w.heap.size ∧ ρ cg = (3, 0) ∧ (∀ k, k < S.n → w.cell? ⟨g, k, none⟩ = some (.int .i64 (l.getD k 0))) ∧ (∀ k, w.frozen? ⟨g, k, none⟩ = false) := by
  have h1 := h.n1
  obtain ⟨cg, cc, ec, _, hcl⟩ := World.ownsRow.form h.c (by omega)
  have hl := h.coml
  have hx : S.coms[r]? = some S.coms[r] := List.getElem?_eq_getElem (by omega)
  generalize hxe : S.coms[r] = x at hx
  obtain ⟨hi, hlen, hro⟩ := h.com r x hx
  obtain ⟨g, cap, ev, hg, hcell, hfz, _⟩ := hi.form (by omega)
  refine ⟨cg, cc, g, cap, x.2, ec, ?_, ?_, hlen, hro g (by rw [ev]; rfl), hg, hcl, h.rc cg (by rw [ec]; rfl), fun k hk => hcell k (by omega), hfz⟩
  · have hc := h.c
    rw [ec] at hc
    rw [World.ownsRow.cellAt hc r (by omega)]
    simp only [List.getElem?_map, hx, Option.map_some]
    rw [ev, hlen]
  · rw [hx]; congr 1; ext1
    · simp only; rw [ev, hlen]
    · rfl

/-- the row of a replica's spots -/
theorem RefRep.theRow {w b ρ S} (h : RefRep w b ρ S) (r : Nat) (hr : r < S.n) :
    ∃ sg sc v l, S.sv = .slice (some ⟨sg, 0, none⟩) S.n sc ∧ w.cell? ⟨sg, r, none⟩ = some v ∧ S.rows[r]? = some (v, l) ∧ w.ownsRow 0 117 6 v l.length (spv l) ∧ role ρ v (5, r) ∧
      sg < w.heap.size ∧ ρ sg = (8, 0) ∧ (∀ k, w.frozen? ⟨sg, k, none⟩ = false) := by
  have h1 := h.n1
  obtain ⟨sg, sc, es, _, hsl⟩ := World.ownsRow.form h.s (by omega)
  have hl := h.rowl
  have hx : S.rows[r]? = some S.rows[r] := List.getElem?_eq_getElem (by omega)
  generalize hxe : S.rows[r] = x at hx
  have hs := h.s
  rw [es] at hs
  refine ⟨sg, sc, x.1, x.2, es, ?_, hx, (h.row r x hx).1, (h.row r x hx).2, hsl, h.rs sg (by rw [es]; rfl), fun k => World.ownsRow.frozenAt hs k⟩
  rw [World.ownsRow.cellAt hs r (by omega)]
  simp [List.getElem?_map, hx]

/-- a spot of a row: its cells -/
theorem spot_cells {w : World} {base e : Nat} {v : Value} {l : List SP} (h : w.ownsRow base e 6 v l.length (spv l)) (i : Nat) (s : SP) (hs : l[i]? = some s) :
    ∃ g cap, v = .slice (some ⟨g, 0, none⟩) l.length cap ∧ g < w.heap.size ∧ i < l.length ∧ (∀ j, j < 6 → w.cell? ⟨g, i * 6 + j, none⟩ = s.cells[j]?) ∧ (∀ k, w.frozen? ⟨g, k, none⟩ = false) := by
  have hi : i < l.length := (List.getElem?_eq_some_iff.1 hs).1
  obtain ⟨g, cap, rfl, _, hlt⟩ := World.ownsRow.form h (by omega)
  refine ⟨g, cap, rfl, hlt, hi, fun j hj => ?_, fun k => World.ownsRow.frozenAt h k⟩
  rw [World.ownsRow.cellAt h _ (by omega)]
  exact spv_get l i s hs j hj

end Go.Proofs.YtaelaldmibgibaaGreatDoor

namespace Go.Proofs.YtaelaldmibgibaaGreatDoor
open Go.RowKit
attribute [local go_sem ↓] Go.wp_at_zero Go.wp_at_succ
/-- a store of a whole spot, kept from the walk's own way of storing -/
def stM (t : TypeId) (p v : Value) : Sem Unit := Instr.storeAt t p v
theorem stSpot (p v : Value) : Instr.storeAt 117 p v = stM 117 p v := rfl
theorem run_stSpot (w : World) (b : Nat) (x0 : Bool) (x1 : ByteArray) (x2 x3 : Int) (a4 a5 : Option Addr) (n4 c4 n5 c5 : Nat) (ht : w.there b 0 6) :
    (stM 117 (.pointer (some ⟨b, 0, none⟩)) (.agg #[.bool x0, .string x1, .int .i64 x2, .int .i64 x3, .slice a4 n4 c4, .slice a5 n5 c5])).run Tryz.prog w =
      .ok () (w.setCells b 0 [.bool x0, .string x1, .int .i64 x2, .int .i64 x3, .slice a4 n4 c4, .slice a5 n5 c5]) :=
  run_storeAt_mid w b 0 _ #[.bool x0, .string x1, .int .i64 x2, .int .i64 x3, .slice a4 n4 c4, .slice a5 n5 c5] ht size_Spot (by simp [Value.oneCell'])
attribute [local go_sem ↓] stSpot
attribute [local go_sem] run_stSpot

theorem bcell {W w1 : World} (hb : Below W.heap.size W w1) : (∀ b o, b < W.heap.size → w1.cell? ⟨b, o, none⟩ = W.cell? ⟨b, o, none⟩) ∧ (∀ b o, b < W.heap.size → w1.frozen? ⟨b, o, none⟩ = W.frozen? ⟨b, o, none⟩) :=
  ⟨fun b o h => hb.cell (p := ⟨b, o, none⟩) h, fun b o h => hb.frozen (p := ⟨b, o, none⟩) h⟩

/-- the count of a replica -/
def RS.count (S : RS) (r : Nat) : Int := ((S.coms[r]?.getD (.slice none 0 0, [])).2).getD r 0

set_option maxHeartbeats 400000 in
theorem spent_any (b r : Nat) (ρ : Nat → Nat × Nat) (S : RS) (w : World) (h : RefRep w b ρ S) (hr : r < S.n) :
    Calls Tryz.prog 151 #[.pointer (some ⟨b, 0, none⟩), .int .i64 r] w fun e w' => e = .returned (.bool (decide (1000000000 ≤ S.count r))) ∧ w' = w := by
  obtain ⟨cg, cc, g, cap, l, ec, hc, hx, hl, _, hg, _, _, hcell, _⟩ := h.common r hr
  have h2 := h.c2
  rw [ec] at h2
  have h6 := h.n6
  have hq := hcell r hr
  have hcount : S.count r = l.getD r 0 := by unfold RS.count; rw [hx]; rfl
  rw [hcount]
  clear hcount hcell hx h
  generalize l.getD r 0 = q at *
  generalize S.n = n at *
  clear ec hl
  go_enter Tryz.func151, Tryz.ntmps151
  go_wp2
  go_ret
  exact ⟨rfl, rfl⟩

set_option maxRecDepth 100000 in
set_option maxHeartbeats 300000 in
theorem fresh_any (b r : Nat) (ρ : Nat → Nat × Nat) (S : RS) (w : World) (h : RefRep w b ρ S) (hr : r < S.n) :
    Calls Tryz.prog 102 #[.pointer (some ⟨b, 0, none⟩), .int .i64 r] w fun e w' => ∃ chv tmv l x, S.coms[r]? = some (x, l) ∧
      e = .returned (.agg #[.bool false, .string .empty, .int .i64 0, .int .i64 0, chv, tmv]) ∧ w'.ownsRow w.heap.size 3 1 chv S.n (ivs (List.replicate S.n 0)) ∧
      w'.ownsRow w.heap.size 3 1 tmv l.length (ivs l) ∧ (∀ k, chv.ownBlock = some k → tmv.ownBlock ≠ some k) ∧ Below w.heap.size w w' := by
  obtain ⟨cg, cc, g, cap, l, ec, hc, hx, hl, _, hg, hcg, _, hcell, _⟩ := h.common r hr
  have h2 := h.c2
  rw [ec] at h2
  have h0 := h.c0
  have h6 := h.n6
  have h1 := h.n1
  have hrow : intRow w (.slice (some ⟨g, 0, none⟩) S.n cap) l := (h.com r _ hx).1
  have hb : b < w.heap.size := h.lt b (by rw [h.rb]; decide)
  have keepS : ∀ w', Mine w w.heap.size 6 w' → (Mine w w.heap.size 6 w' ∧ w'.cell? ⟨b, 0, none⟩ = some (.int .i64 S.n) ∧ w'.cell? ⟨b, 2, none⟩ = some (.slice (some ⟨cg, 0, none⟩) S.n cc) ∧ w'.cell? ⟨cg, r, none⟩ = some (.slice (some ⟨g, 0, none⟩) S.n cap) ∧ w'.there w.heap.size 0 6) := fun w' hm => by
    have hb' := hm.below
    exact ⟨hm, (hb'.cell (p := ⟨b, 0, none⟩) hb).trans h0, (hb'.cell (p := ⟨b, 2, none⟩) hb).trans h2, (hb'.cell (p := ⟨cg, r, none⟩) hcg).trans hc, hm.there⟩
  have HK := hide keepS
  have keepR : ∀ w', Mine w w.heap.size 6 w' → intRow w' (.slice (some ⟨g, 0, none⟩) S.n cap) l := fun w' hb' => ownsRow_keep hrow (fun k e => hb'.below.block k (by simp [Value.ownBlock] at e; omega))
  have HR := hide keepR
  have HX := hide hx
  clear keepS keepR hrow hx hcell
  generalize S.n = n at *
  clear h
  have hsz := size_Spot
  go_enter Tryz.func102, Tryz.ntmps102
  go_wp2
  have start := unhide HK _ (Mine.made' w #[.bool false, .string ⟨#[]⟩, .int .i64 0, .int .i64 0, .slice none 0 0, .slice none 0 0] 117 (n := 6) rfl).drew
  go_region_held3 (fun w' => Mine w w.heap.size 6 w' ∧ w'.cell? ⟨b, 0, none⟩ = some (.int .i64 n) ∧ w'.cell? ⟨b, 2, none⟩ = some (.slice (some ⟨cg, 0, none⟩) n cc) ∧ w'.cell? ⟨cg, r, none⟩ = some (.slice (some ⟨g, 0, none⟩) n cap) ∧ w'.there w.heap.size 0 6)
    (first | (refine unhide HK _ ?_; first | with_reducible exact Mine.setCells (by assumption) _ _ | with_reducible exact Mine.set6 (by assumption) _ _ _ _ _ _ | with_reducible exact Mine.call (by assumption) hb2 | with_reducible exact Mine.call (by assumption) hb1 | with_reducible exact And.left (by assumption)))
    (first
      | (go_at_call 49; refine (zeros_form n h1 h6 _).mono ?_; rintro e w1 ⟨g1, c1, rfl, ho1, hg1, hl1, hb1⟩)
      | (go_at_call 153; refine (copied_form _ l _ (unhide HR _ (And.left (by assumption))) (by omega) (by omega)).mono ?_; rintro e w2 ⟨g2, c2, rfl, ho2, hg2, hl2, hb2⟩))
  go_wp2
  have hm : Mine w w.heap.size 6 w2 := Mine.call (p := True) ⟨Mine.call start hb1, trivial⟩ hb2
  have hm1 : Mine w w.heap.size 6 w1 := Mine.call start hb1
  have hne1 : g1 ≠ w.heap.size := by simp at hg1; omega
  have hne2 : g2 ≠ w.heap.size := by have := hm1.lt; omega
  refine bodyPost_ret (ret_cell1 Tryz.results102 (a := ⟨w.heap.size, 0, none⟩) rfl (load_stored (cs := [_, _, _, _, _, _]) hm.there Tryz.underlying117 rfl size_Spot)) rfl ?_
  refine ⟨_, _, l, _, HX.out, rfl, ?_, ?_, ?_, (Mine.setCells (p := True) ⟨hm, trivial⟩ 0 _).below⟩
  · refine ownsRow_base (ownsRow_keep ho1 ?_) ?_
    · intro k hk
      simp [Value.ownBlock] at hk
      subst hk
      rw [heap_setCells_other _ _ _ _ _ hne1]
      exact hb2.block _ hl1
    · intro k hk
      simp [Value.ownBlock] at hk
      subst hk
      simp at hg1; omega
  · rw [hl] at ho2 ⊢
    refine ownsRow_base (ownsRow_keep ho2 ?_) ?_
    · intro k hk
      simp [Value.ownBlock] at hk
      subst hk
      rw [heap_setCells_other _ _ _ _ _ hne2]
    · intro k hk
      simp [Value.ownBlock] at hk
      subst hk
      have := hm1.below.size
      omega
  · intro k hk
    simp [Value.ownBlock] at hk ⊢
    subst hk
    omega

end Go.Proofs.YtaelaldmibgibaaGreatDoor
