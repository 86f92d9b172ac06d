/- Small facts on worlds for the proofs of this seat: what a call may write (Fr), and types' rows. append of one element, in the forms that the walks use. The small functions of the document's answer: zeros, copied, IsPath. What a path is: IsPath of the document's answer, isPath of the program. Histories: events, pasts, what is done with them (pure). Histories: lists of events in memory: Has, all. Histories: lists of events in memory: union. Histories: the pasts in memory. -/
import Derived.Test.YtaelaldmibgibaaGreatRows
import Derived.WalkKit
import Derived.WalkSpells
import Derived.WalkLawsBesides
import Derived.Deep.AppendLies
import Derived.Deep.MidRow
import Derived.Laws.StructEq

set_option linter.unusedVariables false
set_option linter.unusedSimpArgs false
set_option linter.unusedSectionVars false
set_option maxHeartbeats 2000000
set_option maxRecDepth 100000

namespace Go.Proofs.YtaelaldmibgibaaGreat
open Go.RowKit
theorem yab {p : Prop} (h : p) : Hid p := h
theorem ycp {w W w1 : World} (h : Below w.heap.size w W) (hb : Below W.heap.size W w1) : Below w.heap.size w w1 := h.trans (hb.mono h.size)
structure Fr (S : Nat → Prop) (w w' : World) : Prop where
 os : w'.os = w.os
 tape : w'.tape = w.tape
 output : w'.output = w.output
 size : w.heap.size ≤ w'.heap.size
 block : ∀ k, k < w.heap.size → ¬ S k → w'.heap[k]? = w.heap[k]?
theorem Fr.refl (S : Nat → Prop) (w : World) : Fr S w w := ⟨rfl, rfl, rfl, Nat.le_refl _, fun _ _ _ => rfl⟩
theorem Fr.trans {S : Nat → Prop} {a b c : World} (h : Fr S a b) (k : Fr S b c) : Fr S a c :=
 ⟨k.os.trans h.os, k.tape.trans h.tape, k.output.trans h.output, Nat.le_trans h.size k.size, fun i hi hs => (k.block i (Nat.lt_of_lt_of_le hi h.size) hs).trans (h.block i hi hs)⟩
theorem Fr.mono {S T : Nat → Prop} {w w' : World} (h : Fr S w w') (hST : ∀ k, k < w.heap.size → S k → T k) : Fr T w w' :=
 ⟨h.os, h.tape, h.output, h.size, fun i hi hs => h.block i hi (fun q => hs (hST i hi q))⟩
theorem Fr.trans' {S T : Nat → Prop} {a b c : World} (h : Fr S a b) (k : Fr T b c) (hTS : ∀ i, i < a.heap.size → T i → S i) : Fr S a c :=
 ⟨k.os.trans h.os, k.tape.trans h.tape, k.output.trans h.output, Nat.le_trans h.size k.size,
  fun i hi hs => (k.block i (Nat.lt_of_lt_of_le hi h.size) (fun q => hs (hTS i hi q))).trans (h.block i hi hs)⟩
theorem Fr.of_below {S : Nat → Prop} {w w' : World} (h : Below w.heap.size w w') : Fr S w w' :=
 ⟨h.os, h.tape, h.output, h.size, fun i hi _ => h.block i hi⟩
theorem Fr.drew {S : Nat → Prop} {a w : World} (h : Fr S a w) : Fr S a w.drew := ⟨h.os, h.tape, h.output, h.size, h.block⟩
theorem Fr.alloc {S : Nat → Prop} {a w : World} (h : Fr S a w) (o : Obj) : Fr S a (w.alloc o) :=
 h.trans ⟨rfl, rfl, rfl, by simp, fun k hk _ => Below.heap_alloc _ _ _ hk⟩
theorem Fr.setCell {S : Nat → Prop} {a w : World} (h : Fr S a w) {p : Addr} (hp : S p.block ∨ a.heap.size ≤ p.block) (u : Value) : Fr S a (w.setCell p u) :=
 ⟨h.os, h.tape, h.output, by simpa [World.setCell] using h.size, fun k hk hs => by
  rw [Below.heap_setCell _ _ _ _ (by rintro rfl; rcases hp with hp | hp; exact hs hp; omega)]; exact h.block k hk hs⟩
theorem Fr.grown {S : Nat → Prop} {a w w' : World} {row : Option Nat} (h : Fr S a w) (hg : w.grownBy w' row) (hr : ∀ k, row = some k → S k ∨ a.heap.size ≤ k) : Fr S a w' :=
 ⟨hg.os.trans h.os, hg.tape.trans h.tape, hg.output.trans h.output, Nat.le_trans h.size hg.size, fun k hk hs => by
  rw [hg.block k (Nat.lt_of_lt_of_le hk h.size) (fun e => by rcases hr k e.symm with q | q; exact hs q; omega)]; exact h.block k hk hs⟩
def cv (w : World) (k j : Nat) : Value := (w.cell? ⟨k, j, none⟩).getD (.bool false)
theorem cv_eq {w : World} {k j : Nat} (h : (w.cell? ⟨k, j, none⟩).isSome = true) : w.cell? ⟨k, j, none⟩ = some (cv w k j) := by
 unfold cv
 cases hc : w.cell? ⟨k, j, none⟩ with
 |none => rw [hc] at h; cases h
 |some v => rfl
structure yjx (w : World) (k n : Nat) (w' : World) : Prop where
 below : Below w.heap.size w w'
 ge : w.heap.size ≤ k
 lt : k < w'.heap.size
 some : ∀ j, j < n → (w'.cell? ⟨k, j, none⟩).isSome = true
 fz : ∀ j, w'.frozen? ⟨k, j, none⟩ = false
theorem yjx.made (w : World) (cs : Array Value) (t : TypeId) : yjx w w.heap.size cs.size (w.alloc (.cells cs t)) := by
 refine ⟨(Below.refl _ _).alloc (Nat.le_refl _) _, Nat.le_refl _, by simp, fun j hj => ?_, fun j => ?_⟩
 ·simp only [World.cell?, heap_alloc_new]; simpa using hj
 ·simp only [World.frozen?, heap_alloc_new]; simp
theorem yjx.made' (w : World) (cs : Array Value) (t : TypeId) {n : Nat} (h : cs.size = n) : yjx w w.heap.size n (w.alloc (.cells cs t)) := h ▸ yjx.made w cs t
theorem yjx.call {w : World} {k n : Nat} {W w1 : World} {p : Prop} (h : yjx w k n W ∧ p) (hb : Below W.heap.size W w1) : yjx w k n w1 :=
 ⟨h.1.below.trans (hb.mono h.1.below.size), h.1.ge, Nat.lt_of_lt_of_le h.1.lt hb.size, fun j hj => by rw [hb.cell h.1.lt]; exact h.1.some j hj, fun j => by rw [hb.frozen h.1.lt]; exact h.1.fz j⟩
theorem yjx.alloc {w : World} {k n : Nat} {W : World} (h : yjx w k n W) (o : Obj) : yjx w k n (W.alloc o) :=
 yjx.call (p := True) ⟨h, trivial⟩ ((Below.refl _ _).alloc (Nat.le_refl _) o)
theorem ymk {w : World} {a x : Addr} {v : Value} (h : (w.cell? a).isSome = true) : ((w.setCell x v).cell? a).isSome = true := by
 cases hc : w.cell? a with
 |none => rw [hc] at h; cases h
 |some u =>
  obtain ⟨v', hv⟩ := cell?_setCell_some (w := w) (p := x) (x := v) (q := a) (v := u) hc
  rw [hv]; rfl
theorem yjx.setCell {w : World} {k n : Nat} {W : World} (h : yjx w k n W) (x : Addr) (hx : x.block = k ∨ w.heap.size ≤ x.block) (v : Value) : yjx w k n (W.setCell x v) :=
 ⟨h.below.setCell (by have := h.ge; omega) v, h.ge, by simpa [World.setCell] using h.lt, fun j hj => ymk (h.some j hj), fun j => by rw [World.frozen?_setCell]; exact h.fz j⟩
theorem yjx.there {w : World} {k n : Nat} {W : World} (h : yjx w k n W) : W.there k 0 n := fun j hj => ⟨by simpa using h.some j hj, h.fz _⟩
theorem Below.setCells {B : Nat} {a w : World} (h : Below B a w) {b : Nat} (hp : B ≤ b) (vs : List Value) (o : Nat) : Below B a (w.setCells b o vs) := by
 induction vs generalizing o w with
 |nil => exact h
 |cons v vs ih => exact ih (h.setCell (p := ⟨b, o, none⟩) hp v) (o + 1)
theorem yda (w : World) (b o : Nat) (vs : List Value) (k : Nat) (h : k ≠ b) : (w.setCells b o vs).heap[k]? = w.heap[k]? := by
 induction vs generalizing o w with
 |nil => rfl
 |cons v vs ih => simp only [World.setCells]; rw [ih, Below.heap_setCell _ _ _ _ h]
theorem yio (w : World) (b o : Nat) (vs : List Value) : (w.setCells b o vs).heap.size = w.heap.size := by
 induction vs generalizing o w with
 |nil => rfl
 |cons v vs ih => simp only [World.setCells]; rw [ih]; simp [World.setCell]
theorem yae {w w' : World} {base : Nat} {e : TypeId} {size : Nat} {v : Value} {n : Nat} {xs : List Value} (h : w.ownsRow base e size v n xs)
  (hk : ∀ k, v.ownBlock = some k → w'.heap[k]? = w.heap[k]?) : w'.ownsRow base e size v n xs := by
 refine ⟨h.1, ?_⟩
 rcases h.2 with h0 | ⟨g, cap, cur, hv, hb, hg, r⟩
 ·exact .inl h0
 ·exact .inr ⟨g, cap, cur, hv, hb, by rw [hk g (by rw [hv]; rfl)]; exact hg, r⟩
theorem yaq {w : World} {base base' : Nat} {e : TypeId} {size : Nat} {v : Value} {n : Nat} {xs : List Value} (h : w.ownsRow base e size v n xs) (hb : ∀ k, v.ownBlock = some k → base' ≤ k) : w.ownsRow base' e size v n xs := by
 refine ⟨h.1, ?_⟩
 rcases h.2 with h0 | ⟨g, cap, cur, hv, _, r⟩
 ·exact .inl h0
 ·exact .inr ⟨g, cap, cur, hv, hb g (by rw [hv]; rfl), r⟩
def ivs (l : List Int) : List Value := l.map (Value.int .i64)
def svs (l : List ByteArray) : List Value := l.map Value.string
theorem yjf (a b : List ByteArray) : svs (a ++ b) = svs a ++ svs b := by simp [svs]
theorem ivs_set (l : List Int) (k : Nat) (x : Int) : (ivs l).set k (.int .i64 x) = ivs (l.set k x) := by simp [ivs, List.map_set]
theorem ret_cell1 {P : Program} {fn : Func} {p : Tmp} {ty : TypeId} (h : fn.results = #[.cell p ty]) {tmps : Array Value} {a : Addr} (ha : tmps.getD p undef = .pointer (some a)) {w : World} {v : Value}
  (hl : (loadVar ty a).run P w = .ok v w) : (results fn tmps).run P w = .ok v w := by
 have ha' : tmps[p]?.getD undef = .pointer (some a) := by simpa using ha
 simp only [results, h]
 simp [ha', asAddr, hl]
theorem yds {P : Program} {fn : Func} {p u : Tmp} {ty : TypeId} (h : fn.results = #[.cell p ty, .tmp u]) {tmps : Array Value} {a : Addr} (ha : tmps.getD p undef = .pointer (some a)) {w : World} {v : Value}
  (hl : (loadVar ty a).run P w = .ok v w) : (results fn tmps).run P w = .ok (.tuple #[v, tmps.getD u undef]) w := by
 have ha' : tmps[p]?.getD undef = .pointer (some a) := by simpa using ha
 simp only [results, h]
 simp [Result.andThen, ha', asAddr, hl]
theorem ydj {P : Program} {w : World} {b : Nat} {ty : TypeId} {cs : List Value} {d : TypeDesc} (ht : w.there b 0 cs.length) (hu : P.underlying ty = some d) (hd : d.isRow = true) (hi : (P.info? ty).map (·.size) = some cs.length) :
  (loadVar ty ⟨b, 0, none⟩).run P (w.setCells b 0 cs) = .ok (.agg cs.toArray) (w.setCells b 0 cs) :=
 run_loadVar_mid _ b 0 ty cs d (World.rangeAt_setCells_same w b 0 cs ht) hu hd hi
theorem yoe : (Tryz.prog.info? 3).map (fun i => (i.zero, i.size, i.bytes)) = some (some (.int .i64 0), 1, 8) := by kernel_rfl
theorem ysd : (Tryz.prog.info? 9).map (fun i => (i.zero, i.size, i.bytes)) = some (some (.string .empty), 1, 16) := by kernel_rfl
section
variable {ops : Array Oper} {rest : List Oper} {o : Oper} {a : Act} {Q : Exit → Act → World → Prop} (w : World)
theorem yrl (hgd : o.guard = none) (s x : Operand) (ho : o.op = .call { callee := .builtin .append, args := #[s, x], argTypes := #[36, 36] }) (base : Nat) (v : Value) (n : Nat) (xs : List Value) (hs : a.eval s = v) (hown : w.ownsRow base 9 1 v n xs)
  (k : Nat) (y : ByteArray) (hx : a.eval x = .slice (some ⟨k, 0, none⟩) 1 1) (hc : w.cell? ⟨k, 0, none⟩ = some (.string y)) (hn : n ≤ 1000000000000) (hb : base ≤ w.heap.size)
  (h : ∀ g cap w1, w1.ownsRow base 9 1 (.slice (some ⟨g, 0, none⟩) (n + 1) cap) (n + 1) (xs ++ [.string y]) → w.grownBy w1 v.ownBlock → (v.ownBlock = some g ∨ g = w.heap.size) → g < w1.heap.size → wpList Tryz.prog ops Q rest (a.put o.dst (.slice (some ⟨g, 0, none⟩) (n + 1) cap)) w1) :
  wpList Tryz.prog ops Q (o :: rest) a w := by
 obtain ⟨i0, hi, hz0, hz1, hz2⟩ := info_parts ysd
 refine wpList_append_lies w hgd s x 36 ho base 9 i0 _ 1 16 Tryz.underlying36 hi hz0 hz1 hz2 rfl (by decide) v n xs hs hown ⟨k, 0, none⟩ 1 1 [.string y] hx rfl ?_ ?_ (by omega) (by unfold maxLen; omega) (by omega) hb _ rfl h
 ·intro j u hj
  match j, hj with
  |0, hj => simp at hj; subst hj; simpa [Addr.add] using hc
 ·intro u hu; simp at hu; subst hu; rfl
end
theorem yhq {w W w1 : World} {v : Value} (hb : Below w.heap.size w W) (hg : W.grownBy w1 v.ownBlock) (hv : ∀ k, v.ownBlock = some k → w.heap.size ≤ k) : Below w.heap.size w w1 :=
 hb.grown hg hb.size hv
end Go.Proofs.YtaelaldmibgibaaGreat

namespace Go.Proofs.YtaelaldmibgibaaGreat
open Go.RowKit
def ybd (c : UInt8) : Bool := c == 47 || (decide (97 ≤ c) && decide (c ≤ 122))
def yat (s : ByteArray) : Bool := decide (1 ≤ s.size ∧ s.size ≤ 12) && s.data.toList.all ybd
theorem ynt (s : ByteArray) (k : Nat) (h : k < s.size) (ha : (s.data.toList.take k).all ybd = true) (hb : ybd s[k] = true) :
  (s.data.toList.take (k + 1)).all ybd = true := by
 have hl : k < s.data.toList.length := by simpa using h
 rw [List.take_succ_eq_append_getElem hl, List.all_append, ha]
 simp only [List.all_cons, List.all_nil, Bool.and_true, Bool.true_and]
 exact hb
theorem pathOk_end (s : ByteArray) (k : Nat) (h : ¬ k < s.size) (ha : (s.data.toList.take k).all ybd = true) : s.data.toList.all ybd = true := by
 have hl : s.data.toList.length ≤ k := by rw [Array.length_toList]; exact Nat.le_of_not_lt h
 rwa [List.take_of_length_le hl] at ha
theorem pathOk_bad (s : ByteArray) (k : Nat) (h : k < s.size) (hb : ybd s[k] = false) : yat s = false := by
 unfold yat
 have : s.data.toList.all ybd = false := by
  rw [List.all_eq_false]
  exact ⟨s[k], Array.getElem_mem_toList (by exact h), by rw [hb]; simp⟩
 rw [this, Bool.and_false]
theorem yqi {c : UInt8} (h : (c.toNat : Int) = 47 ∨ ((97 : Int) ≤ c.toNat ∧ (c.toNat : Int) ≤ 122)) : ybd c = true := by
 unfold ybd
 rcases h with h | h
 ·have : c = 47 := UInt8.toNat_inj.1 (by simp; omega)
  simp [this]
 ·have h1 : 97 ≤ c := by rw [UInt8.le_iff_toNat_le]; simp; omega
  have h2 : c ≤ 122 := by rw [UInt8.le_iff_toNat_le]; simp; omega
  simp [h1, h2]
theorem ysq {c : UInt8} (h : (c.toNat : Int) ≠ 47) (h' : (c.toNat : Int) < 97 ∨ (122 : Int) < c.toNat) : ybd c = false := by
 unfold ybd
 have h0 : (c == 47) = false := by
  rw [beq_eq_false_iff_ne]; rintro rfl; simp at h
 rcases h' with h' | h'
 ·have h1 : ¬ 97 ≤ c := by rw [UInt8.le_iff_toNat_le]; simp; omega
  simp [h0, h1]
 ·have h1 : ¬ c ≤ 122 := by rw [UInt8.le_iff_toNat_le]; simp; omega
  simp [h0, h1]
theorem yhg (c : UInt8) (w : World) :
  Calls Tryz.prog 67 #[.int .u8 c.toNat] w fun e w' => e = .returned (.bool (ybd c)) ∧ w' = w := by
 have rr : Hid (∀ b, b = ybd c → Ending.returned (.bool b) = .returned (.bool (ybd c))) := fun b h => by rw [h]
 have Y : Hid (((c.toNat : Int) = 47 ∨ ((97 : Int) ≤ c.toNat ∧ (c.toNat : Int) ≤ 122)) → ybd c = true) := yqi
 have N : Hid ((c.toNat : Int) ≠ 47 → ((c.toNat : Int) < 97 ∨ (122 : Int) < c.toNat) → ybd c = false) := ysq
 generalize hx : (c.toNat : Int) = x at *
 clear hx
 by_cases h1 : x = 47
 ·have hb : (x == 47) = true := by simp [h1]
  go_enter Tryz.func67, Tryz.ntmps67
  go_wp2
  go_ret
  exact ⟨rr.out _ (Y.out (.inl h1)).symm, rfl⟩
 ·have hb : (x == 47) = false := by simp [h1]
  by_cases h2 : 97 ≤ x
  ·by_cases h3 : x ≤ 122
   ·go_enter Tryz.func67, Tryz.ntmps67
    go_wp2
    go_ret
    exact ⟨rr.out _ (by rw [Y.out (.inr ⟨h2, h3⟩)]), rfl⟩
   ·go_enter Tryz.func67, Tryz.ntmps67
    go_wp2
    go_ret
    exact ⟨rr.out _ (by rw [N.out h1 (.inr (by omega))]), rfl⟩
  ·go_enter Tryz.func67, Tryz.ntmps67
   go_wp2
   go_ret
   exact ⟨rr.out _ (N.out h1 (.inl (by omega))).symm, rfl⟩
theorem ynb (s : ByteArray) (w : World) (hs : s.size ≤ maxLen) :
  Calls Tryz.prog 47 #[.string s] w fun e w' => e = .returned (.bool (yat s)) ∧ w' = w := by
 unfold maxLen at hs
 by_cases hlen : 1 ≤ s.size ∧ s.size ≤ 12
 ·obtain ⟨hl1, hl2⟩ := hlen
  have d1 : decide ((s.size : Int) < 1) = false := by simp; omega
  have d2 : decide ((12 : Int) < (s.size : Int)) = false := by simp; omega
  go_enter Tryz.func47, Tryz.ntmps47
  go_wp2
  clear d1 d2
  go_loop [14] (fun i => ∃ k : Nat, k ≤ s.size ∧ i = .int .i64 k ∧ Hid ((s.data.toList.take k).all ybd = true)) (fun i => s.size - (intOf i).toNat)
  case atStart => exact ⟨0, Nat.zero_le _, rfl, by unfold Hid; simp⟩
  case round =>
   obtain ⟨k, hk, rfl, ha⟩ := hrel
   by_cases hlt : k < s.size
   ·have ha' : Hid (ybd s[k] = true → (s.data.toList.take (k + 1)).all ybd = true) := fun h => ynt s k hlt ha h
    have hbad : Hid (ybd s[k] = false → Ending.returned (.bool false) = .returned (.bool (yat s))) := fun h => by rw [pathOk_bad s k hlt h]
    cases hp : ybd s[k] with
    |true =>
     have HP := ha'.out hp
     have HY : Hid ((s.data.toList.take (k + 1)).all ybd = true) := HP
     clear HP ha' hbad
     go_wp2_with (go_at_call 67; refine (yhg _ _).mono ?_; rintro e w' ⟨rfl, rfl⟩)
     go_round
     case rel => exact ⟨k + 1, by omega, by go_num, HY⟩
     case measure => simp [intOf]; omega
    |false =>
     have HP := hbad.out hp
     have HY : Hid (Ending.returned (.bool false) = .returned (.bool (yat s))) := HP
     clear HP ha' hbad
     go_wp2_with (go_at_call 67; refine (yhg _ _).mono ?_; rintro e w' ⟨rfl, rfl⟩)
     go_ret
     exact ⟨HY.out, rfl⟩
   ·have he : Hid (Ending.returned (.bool true) = .returned (.bool (yat s))) := by
     unfold Hid
     rw [yat, pathOk_end s k hlt ha, Bool.and_true]
     simp [hl1, hl2]
    go_wp2
    go_ret
    exact ⟨he.out, rfl⟩
 ·have he : Hid (Ending.returned (.bool false) = .returned (.bool (yat s))) := by
   unfold Hid
   rw [yat, decide_eq_false hlen, Bool.false_and]
  by_cases h1 : s.size < 1
  ·have d1 : decide ((s.size : Int) < 1) = true := by simp; omega
   go_enter Tryz.func47, Tryz.ntmps47
   go_wp2
   go_ret
   exact ⟨he.out, rfl⟩
  ·have d1 : decide ((s.size : Int) < 1) = false := by simp; omega
   have d2 : decide ((12 : Int) < (s.size : Int)) = true := by simp; omega
   go_enter Tryz.func47, Tryz.ntmps47
   go_wp2
   go_ret
   exact ⟨he.out, rfl⟩
open Classical
abbrev Ev := Nat × Int
structure ycf where
 there : Bool
 text : ByteArray
 birth : Ev
 made : List Ev
 heard : List Ev
def yct : ycf := ⟨false, ⟨#[]⟩, (0, 0), [], []⟩
def yla (l : List Ev) (e : Ev) : Bool := l.any (fun x => x.1 == e.1 && x.2 == e.2)
def yeq (a b : List Ev) : Bool := a.all (fun e => yla b e)
def addE (l : List Ev) (e : Ev) : List Ev := if yla l e = true then l else l ++ [e]
def yaa (a b : List Ev) : List Ev := b.foldl addE a
theorem yeu {l : List Ev} {e : Ev} : yla l e = true ↔ e ∈ l := by
 unfold yla
 rw [List.any_eq_true]
 constructor
 ·rintro ⟨x, hx, h⟩
  rw [Bool.and_eq_true, beq_iff_eq, beq_iff_eq] at h
  have : x = e := Prod.ext h.1 h.2
  rw [← this]; exact hx
 ·intro h
  exact ⟨e, h, by simp⟩
theorem yns {a b : List Ev} : yeq a b = true ↔ ∀ e ∈ a, e ∈ b := by
 unfold yeq
 rw [List.all_eq_true]
 exact ⟨fun h e he => yeu.1 (h e he), fun h e he => yeu.2 (h e he)⟩
theorem mem_addE {l : List Ev} {x e : Ev} : e ∈ addE l x ↔ e ∈ l ∨ e = x := by
 unfold addE
 split
 ·next h =>
  rw [yeu] at h
  constructor
  ·exact .inl
  ·rintro (q | rfl)
   ·exact q
   ·exact h
 ·simp
theorem nodup_addE {l : List Ev} (h : l.Nodup) (x : Ev) : (addE l x).Nodup := by
 unfold addE
 split
 ·exact h
 ·next hx =>
  rw [yeu] at hx
  rw [List.nodup_append]
  refine ⟨h, by simp, fun a ha b hb => ?_⟩
  simp at hb
  subst hb
  rintro rfl
  exact hx ha
theorem ydb {a b : List Ev} {e : Ev} : e ∈ yaa a b ↔ e ∈ a ∨ e ∈ b := by
 unfold yaa
 induction b generalizing a with
 |nil => simp
 |cons x b ih => rw [List.foldl_cons, ih, mem_addE, List.mem_cons, or_assoc]
theorem ycg {a b : List Ev} (h : a.Nodup) : (yaa a b).Nodup := by
 unfold yaa
 induction b generalizing a with
 |nil => exact h
 |cons x b ih => rw [List.foldl_cons]; exact ih (nodup_addE h x)
def yap (t f : ycf) : Int :=
 if (t.there && f.there) = true then
  if ((yeq f.made t.made && yeq t.made f.made) && (t.birth.1 == f.birth.1 && t.birth.2 == f.birth.2)) = true then 0
  else if (yeq f.made t.heard && !yeq t.made f.heard) = true then 0
  else if (yeq t.made f.heard && !yeq f.made t.heard) = true then 1
  else 3
 else if (!t.there && !f.there) = true then 0
 else if (f.there && yeq f.made t.heard) = true then 0
 else if (f.there && !yla t.heard f.birth) = true then 1
 else if (t.there && !yla f.heard t.birth) = true then 0
 else if (t.there && yeq t.made f.heard) = true then 2
 else 3
def ybv (a b : ycf) : ycf × Int :=
 if (yap a b == 3 || ((a.there && !b.there) && yap a b == 0)) = true then (a, yap a b)
 else if yap a b = 1 then (⟨b.there, b.text, b.birth, b.made, yaa a.heard b.heard⟩, 1)
 else if yap a b = 2 then (⟨false, ⟨#[]⟩, (0, 0), [], yaa a.heard b.heard⟩, 2)
 else (⟨a.there, a.text, a.birth, a.made, yaa a.heard b.heard⟩, yap a b)
def wrP (a : ycf) (e : Ev) (t : ByteArray) : ycf := ⟨true, t, if a.there = true then a.birth else e, yaa (if a.there = true then a.made else []) [e], yaa a.heard [e]⟩
def rmP (a : ycf) (e : Ev) : ycf := ⟨false, ⟨#[]⟩, a.birth, [], yaa a.heard [e]⟩
def rsP (a b : ycf) (e : Ev) (th : Bool) : ycf := ⟨(if th = true then b else a).there, (if th = true then b else a).text, if (if th = true then b else a).there = true then e else (if th = true then b else a).birth, if (if th = true then b else a).there = true then yaa (yaa a.made b.made) [e] else (if th = true then b else a).made, yaa (yaa a.heard b.heard) [e]⟩
theorem yll (a b : ycf) : (ybv a b).2 = yap a b := by
 unfold ybv
 split
 ·rfl
 ·split
  ·next h => exact h.symm
  ·split
   ·next h => exact h.symm
   ·rfl
def yan (p : ByteArray) (l : List ByteArray) : List ByteArray := @ite _ (p ∈ l) (@List.instDecidableMemOfLawfulBEq _ instBEqOfDecidableEq _ p l) l (l ++ [p])
theorem ydr {p q : ByteArray} {l : List ByteArray} : q ∈ yan p l ↔ q ∈ l ∨ q = p := by
 unfold yan
 split
 ·next h =>
  constructor
  ·exact .inl
  ·rintro (z | rfl)
   ·exact z
   ·exact h
 ·simp
theorem yaw {p : ByteArray} {l : List ByteArray} (h : l.Nodup) : (yan p l).Nodup := by
 unfold yan
 split
 ·exact h
 ·next hp =>
  rw [List.nodup_append]
  refine ⟨h, by simp, fun a ha b hb => ?_⟩
  simp at hb
  subst hb
  rintro rfl
  exact hp ha
def ybn (f : Nat → ByteArray → ycf) (r : Nat) (p : ByteArray) (x : ycf) : Nat → ByteArray → ycf := fun i q => if i = r ∧ q = p then x else f i q
theorem ydd {f : Nat → ByteArray → ycf} {r : Nat} {p : ByteArray} {x : ycf} : ybn f r p x r p = x := by unfold ybn; rw [if_pos ⟨rfl, rfl⟩]
theorem ytg {f : Nat → ByteArray → ycf} {r i : Nat} (h : i ≠ r) {p q : ByteArray} {x : ycf} : ybn f r p x i q = f i q := by unfold ybn; rw [if_neg (fun z => h z.1)]
theorem yht {f : Nat → ByteArray → ycf} {r i : Nat} {p q : ByteArray} (h : q ≠ p) {x : ycf} : ybn f r p x i q = f i q := by unfold ybn; rw [if_neg (fun z => h z.2)]
def evs (l : List Ev) : List Value := (l.map fun e => [Value.int .i64 e.1, .int .i64 e.2]).flatten
theorem evs_at : ∀ (l : List Ev) (i : Nat) (x : Ev), l[i]? = some x → (evs l)[i * 2]? = some (.int .i64 x.1) ∧ (evs l)[i * 2 + 1]? = some (.int .i64 x.2)
 |[], i, x, h => by simp at h
 |y :: l, 0, x, h => by
  simp at h
  subst h
  exact ⟨rfl, rfl⟩
 |y :: l, i + 1, x, h => by
  have ih := evs_at l i x (by simpa using h)
  have e : evs (y :: l) = [Value.int .i64 y.1, .int .i64 y.2] ++ evs l := rfl
  rw [e, List.getElem?_append_right (by simp; omega), List.getElem?_append_right (by simp; omega)]
  simp only [List.length_cons, List.length_nil]
  have e1 : (i + 1) * 2 - 2 = i * 2 := by omega
  have e2 : (i + 1) * 2 + 1 - 2 = i * 2 + 1 := by omega
  simp only [Nat.zero_add, Nat.reduceAdd, e1, e2]
  exact ih
def EvL (w : World) (v : Value) (l : List Ev) : Prop := w.ownsRow 0 82 2 v l.length (evs l)
theorem EvL.below {w w' : World} {v : Value} {l : List Ev} (h : EvL w v l) (hb : Below w.heap.size w w') : EvL w' v l := yae h (fun k e => hb.block k (World.ownsRow.lt h k e).2)
theorem EvL.slice {w : World} {v : Value} {l : List Ev} (h : EvL w v l) : ∃ a cap, v = .slice a l.length cap := by
 rcases h.2 with ⟨e, z⟩ | ⟨g, cap, cur, e, _⟩
 ·exact ⟨none, 0, by rw [e, z]⟩
 ·exact ⟨_, _, e⟩
theorem EvL.len {w : World} {v : Value} {l : List Ev} (h : EvL w v l) : l.length ≤ 9223372036854775807 := by
 rcases h.2 with ⟨e, z⟩ | ⟨g, cap, cur, e, _, _, q1, q2, _⟩
 ·omega
 ·unfold maxLen at q2; omega
theorem EvL.cells {w : World} {a : Option Addr} {n cap : Nat} {l : List Ev} (h : EvL w (.slice a n cap) l) {i : Nat} {x : Ev} (hi : l[i]? = some x) : ∃ g, a = some ⟨g, 0, none⟩ ∧ g < w.heap.size ∧ w.cell? ⟨g, i * 2, none⟩ = some (.int .i64 x.1) ∧ w.cell? ⟨g, i * 2 + 1, none⟩ = some (.int .i64 x.2) := by
 have hlt := (List.getElem?_eq_some_iff.1 hi).1
 obtain ⟨g, cap', e, _, hg⟩ := World.ownsRow.form h (by omega)
 have h1 := h
 unfold EvL at h1
 rw [e] at h1
 obtain ⟨q1, q2⟩ := evs_at l i x hi
 cases e
 exact ⟨g, rfl, hg, (World.ownsRow.cellAt h1 _ (by omega)).trans q1, (World.ownsRow.cellAt h1 _ (by omega)).trans q2⟩
theorem run_eq_gev (x y u v : Int) (w : World) : (Op.equalIn 10000 82 (.agg #[.int .i64 x, .int .i64 y]) (.agg #[.int .i64 u, .int .i64 v])).run Tryz.prog w = .ok (x == u && y == v) w := by
 go_simp
 by_cases h1 : x = u <;> by_cases h2 : y = v <;> simp [h1, h2]
def eqGe (x y : Value) : Sem Value := binOp .eql 82 x y
theorem eqGev (x y : Value) : binOp .eql 82 x y = eqGe x y := rfl
theorem ykk (x y u v : Int) (w : World) : (eqGe (.agg #[.int .i64 x, .int .i64 y]) (.agg #[.int .i64 u, .int .i64 v])).run Tryz.prog w = .ok (.bool (x == u && y == v)) w := by
 unfold eqGe
 rw [run_eql_struct, run_eq_gev]
 rfl
def evV (e : Ev) : Value := .agg #[.int .i64 e.1, .int .i64 e.2]
theorem hasE_take {l : List Ev} {e x : Ev} {i : Nat} (hi : l[i]? = some x) (h : yla (l.take i) e = false) : yla (l.take (i + 1)) e = (((x.1 : Int) == (e.1 : Int)) && (x.2 == e.2)) := by
 obtain ⟨hlt, ex⟩ := List.getElem?_eq_some_iff.1 hi
 rw [List.take_succ_eq_append_getElem hlt]
 unfold yla at h ⊢
 rw [List.any_append, h, ex]
 simp only [List.any_cons, List.any_nil, Bool.or_false, Bool.false_or]
 congr 1
 rw [Bool.eq_iff_iff, beq_iff_eq, beq_iff_eq]
 omega
theorem hasE_mono {l : List Ev} {e : Ev} {i : Nat} (h : yla (l.take i) e = true) : yla l e = true := yeu.2 (List.mem_of_mem_take (yeu.1 h))
attribute [local go_sem ↓] eqGev
attribute [local go_sem] ykk
theorem ykc (v : Value) (l : List Ev) (e0 : Ev) (w : World) (h : EvL w v l) :
  Calls Tryz.prog 57 #[v, evV e0] w fun e w' => e = .returned (.bool (yla l e0)) ∧ Below w.heap.size w w' := by
 obtain ⟨a, cap, rfl⟩ := h.slice
 have HO := yab h
 have hml := h.len
 clear h
 obtain ⟨er, en⟩ := e0
 unfold evV
 have BB : Hid (∀ o, Below w.heap.size w (w.alloc o).drew) := fun o => ((Below.refl _ _).alloc (Nat.le_refl _) o).drew
 go_enter Tryz.func57, Tryz.ntmps57
 go_wp2
 go_loopw [5] (fun iv wr => ∃ i : Nat, i ≤ l.length ∧ iv = .int .i64 i ∧ yla (l.take i) (er, en) = false ∧ Hid (Below w.heap.size w wr) ∧ wr.cell? ⟨w.heap.size, 0, none⟩ = some (.int .i64 er) ∧ wr.cell? ⟨w.heap.size, 1, none⟩ = some (.int .i64 en)) (fun iv _ => l.length - (intOf iv).toNat)
 case atStart => exact ⟨0, Nat.zero_le _, rfl, rfl, (Below.refl _ _).alloc (Nat.le_refl _) _, by simp only [World.cell?, heap_alloc_new]; rfl, by simp only [World.cell?, heap_alloc_new]; rfl⟩
 case round =>
  obtain ⟨i, hi, rfl, hz, hb, k0, k1⟩ := hrel
  by_cases hil : i < l.length
  ·have d1 : decide ((i : Int) < (l.length : Int)) = true := by simp; omega
   obtain ⟨x, hx⟩ : ∃ x, l[i]? = some x := ⟨_, List.getElem?_eq_getElem hil⟩
   obtain ⟨g, rfl, hg, c0, c1⟩ := (HO.out.below hb.out).cells hx
   have ht := hasE_take hx hz
   have BD : Hid (Below w.heap.size w wr.drew) := hb.out.drew
   have c0' : wr.drew.cell? ⟨w.heap.size, 0, none⟩ = some (.int .i64 er) := k0
   have c1' : wr.drew.cell? ⟨w.heap.size, 1, none⟩ = some (.int .i64 en) := k1
   cases hd : (((x.1 : Int) == (er : Int)) && (x.2 == en))
   ·rw [hd] at ht
    go_wp2
    go_region
    all_goals
     go_wp2
     go_roundw
     case rel => exact ⟨i + 1, by omega, by go_num, ht, BD, c0', c1'⟩
     case measure => simp [intOf]; omega
   ·rw [hd] at ht
    have hm := hasE_mono ht
    go_wp2
    go_region
    all_goals
     go_wp2
     go_ret
     exact ⟨by rw [hm]; rfl, BD.out⟩
  ·have ei : i = l.length := by omega
   subst ei
   rw [List.take_length] at hz
   have d1 : decide ((l.length : Int) < (l.length : Int)) = false := by simp
   go_wp2
   go_ret
   exact ⟨by rw [hz]; rfl, hb.out⟩
theorem allE_take {a b : List Ev} {x : Ev} {i : Nat} (hi : a[i]? = some x) (h : yeq (a.take i) b = true) : yeq (a.take (i + 1)) b = yla b x := by
 obtain ⟨hlt, ex⟩ := List.getElem?_eq_some_iff.1 hi
 rw [List.take_succ_eq_append_getElem hlt]
 unfold yeq at h ⊢
 rw [List.all_append, h, ex]
 simp
theorem allE_false {a b : List Ev} {x : Ev} {i : Nat} (hi : a[i]? = some x) (h : yla b x = false) : yeq a b = false := by
 cases e : yeq a b with
 |false => rfl
 |true =>
  have := yns.1 e x (List.mem_of_getElem? hi)
  rw [yeu.2 this] at h
  cases h
theorem ydn (v u : Value) (l m : List Ev) (w : World) (h : EvL w v l) (hu : EvL w u m) :
  Calls Tryz.prog 58 #[v, u] w fun e w' => e = .returned (.bool (yeq l m)) ∧ Below w.heap.size w w' := by
 obtain ⟨a, cap, rfl⟩ := h.slice
 have HO := yab h
 have HA : Hid (∀ V x, Below w.heap.size w V → Calls Tryz.prog 57 #[u, .agg #[.int .i64 x.1, .int .i64 x.2]] V fun e w' => e = .returned (.bool (yla m x)) ∧ Below V.heap.size V w') := fun V x hb => ykc u m x V (hu.below hb)
 have hml := h.len
 clear h hu
 go_enter Tryz.func58, Tryz.ntmps58
 go_wp2
 go_loopw [5] (fun iv wr => ∃ i : Nat, i ≤ l.length ∧ iv = .int .i64 i ∧ yeq (l.take i) m = true ∧ Hid (Below w.heap.size w wr)) (fun iv _ => l.length - (intOf iv).toNat)
 case atStart => exact ⟨0, Nat.zero_le _, rfl, rfl, Below.refl _ _⟩
 case round =>
  obtain ⟨i, hi, rfl, hz, hb⟩ := hrel
  by_cases hil : i < l.length
  ·have d1 : decide ((i : Int) < (l.length : Int)) = true := by simp; omega
   obtain ⟨x, hx⟩ : ∃ x, l[i]? = some x := ⟨_, List.getElem?_eq_getElem hil⟩
   obtain ⟨g, rfl, hg, c0, c1⟩ := (HO.out.below hb.out).cells hx
   have ht := allE_take hx hz
   have C := yab (HA.out _ x hb.out)
   cases hd : yla m x
   ·rw [hd] at C
    have hm := allE_false hx hd
    go_wp2_with (go_at_call 57; refine C.out.mono ?_; rintro e w1 ⟨rfl, hb1⟩; have B1 := yab (ycp hb.out hb1); clear hb1)
    go_ret
    exact ⟨by rw [hm]; rfl, B1.out⟩
   ·rw [hd] at C ht
    go_wp2_with (go_at_call 57; refine C.out.mono ?_; rintro e w1 ⟨rfl, hb1⟩; have B1 := yab (ycp hb.out hb1); clear hb1)
    go_roundw
    case rel => exact ⟨i + 1, by omega, by go_num, ht, B1⟩
    case measure => simp [intOf]; omega
  ·have ei : i = l.length := by omega
   subst ei
   rw [List.take_length] at hz
   have d1 : decide ((l.length : Int) < (l.length : Int)) = false := by simp
   go_wp2
   go_ret
   exact ⟨by rw [hz]; rfl, hb.out⟩
end Go.Proofs.YtaelaldmibgibaaGreat

namespace Go.Proofs.YtaelaldmibgibaaGreat
open Go.RowKit
theorem info_Event : (Tryz.prog.info? 82).map (fun i => (i.zero, i.size, i.bytes)) = some (some (.agg #[.int .i64 0, .int .i64 0]), 2, 16) := by kernel_rfl
section
variable {ops : Array Oper} {rest : List Oper} {o : Oper} {a : Act} {Q : Exit → Act → World → Prop} (w : World)
theorem app_ev (hgd : o.guard = none) (s x : Operand) (ho : o.op = .call { callee := .builtin .append, args := #[s, x], argTypes := #[84, 84] }) (base : Nat) (v : Value) (n : Nat) (xs : List Value) (hs : a.eval s = v) (hown : w.ownsRow base 82 2 v n xs)
  (k : Nat) (y0 y1 : Int) (hx : a.eval x = .slice (some ⟨k, 0, none⟩) 1 1)
  (hc : w.heap[k]? = some (.cells #[.int .i64 y0, .int .i64 y1] 82)) (hn : n ≤ 1000000000) (hb : base ≤ w.heap.size)
  (h : ∀ g cap w1, w1.ownsRow base 82 2 (.slice (some ⟨g, 0, none⟩) (n + 1) cap) (n + 1) (xs ++ [.int .i64 y0, .int .i64 y1]) → w.grownBy w1 v.ownBlock → (v.ownBlock = some g ∨ g = w.heap.size) → g < w1.heap.size → wpList Tryz.prog ops Q rest (a.put o.dst (.slice (some ⟨g, 0, none⟩) (n + 1) cap)) w1) :
  wpList Tryz.prog ops Q (o :: rest) a w := by
 obtain ⟨i0, hi, hz0, hz1, hz2⟩ := info_parts info_Event
 refine wpList_append_lies w hgd s x 84 ho base 82 i0 _ 2 16 Tryz.underlying84 hi hz0 hz1 hz2 rfl (by decide) v n xs hs hown ⟨k, 0, none⟩ 1 1 _ hx rfl ?_ ?_ (by omega) (by unfold maxLen; omega) (by omega) hb _ rfl h
 ·exact World.news_of_block hc
 ·intro u hu; simp at hu; rcases hu with rfl | rfl <;> rfl
end
theorem evs_snoc (l : List Ev) (x : Ev) : evs (l ++ [x]) = evs l ++ [.int .i64 x.1, .int .i64 x.2] := by simp [evs]
theorem ytm {a b : List Ev} {x : Ev} {i : Nat} (hi : b[i]? = some x) : yaa a (b.take (i + 1)) = addE (yaa a (b.take i)) x := by
 obtain ⟨hlt, ex⟩ := List.getElem?_eq_some_iff.1 hi
 rw [List.take_succ_eq_append_getElem hlt, ex]
 unfold yaa
 rw [List.foldl_append]
 rfl
theorem len_addE (l : List Ev) (x : Ev) : (addE l x).length ≤ l.length + 1 := by
 unfold addE
 split
 ·omega
 ·simp
theorem ygn (a b : List Ev) : (yaa a b).length ≤ a.length + b.length := by
 unfold yaa
 induction b generalizing a with
 |nil => simp
 |cons x b ih =>
  rw [List.foldl_cons]
  have := ih (addE a x)
  have := len_addE a x
  simp only [List.length_cons]
  omega
theorem EvL.own {w : World} {base : Nat} {v : Value} {l : List Ev} (h : w.ownsRow base 82 2 v l.length (evs l)) : EvL w v l := yaq h (fun _ _ => Nat.zero_le _)
theorem ybh (v u : Value) (l m : List Ev) (w : World) (h : EvL w v l) (hu : EvL w u m) (hl : l.length + m.length ≤ 1000000000) :
  Calls Tryz.prog 32 #[v, u] w fun e w' => ∃ x, e = .returned x ∧ w'.ownsRow w.heap.size 82 2 x (yaa l m).length (evs (yaa l m)) ∧ Below w.heap.size w w' := by
 obtain ⟨a, cap, rfl⟩ := h.slice
 obtain ⟨b, cap', rfl⟩ := hu.slice
 have HO := yab h
 have HU := yab hu
 clear h hu
 go_enter Tryz.func32, Tryz.ntmps32
 go_wp2
 go_loopw [5, 6] (fun xv iv wr => ∃ i : Nat, i ≤ l.length ∧ iv = .int .i64 i ∧ wr.ownsRow w.heap.size 82 2 xv i (evs (l.take i)) ∧ Hid (Below w.heap.size w wr)) (fun _ iv _ => l.length - (intOf iv).toNat)
 case atStart => exact ⟨0, Nat.zero_le _, rfl, World.ownsRow_nil _ _ _ _, Below.refl _ _⟩
 case round =>
  obtain ⟨i, hi, rfl, ho, hb⟩ := hrel
  by_cases hil : i < l.length
  ·have d1 : decide ((i : Int) < (l.length : Int)) = true := by simp; omega
   obtain ⟨x, hx⟩ : ∃ x, l[i]? = some x := ⟨_, List.getElem?_eq_getElem hil⟩
   obtain ⟨g, rfl, hg, c0, c1⟩ := (HO.out.below hb.out).cells hx
   have ex : l.take (i + 1) = l.take i ++ [x] := by
    obtain ⟨hlt, e⟩ := List.getElem?_eq_some_iff.1 hx
    rw [List.take_succ_eq_append_getElem hlt, e]
   have BA : Hid (∀ o, Below w.heap.size w (wr.alloc o)) := fun o => hb.out.alloc hb.out.size o
   have OA : Hid (∀ o, (wr.alloc o).ownsRow w.heap.size 82 2 u5 i (evs (l.take i))) := fun o => yae ho (fun k e => Below.heap_alloc _ _ _ (World.ownsRow.lt ho k e).2)
   have SZ := yab hb.out.size
   have HLt := yab (World.ownsRow.lt ho)
   clear ho hx
   go_wp2_with (at_builtin; refine app_ev _ rfl (.tmp 15) (.tmp 20) rfl w.heap.size u5 i (evs (l.take i)) rfl (OA.out _) wr.heap.size x.1 x.2 rfl (heap_alloc_new _ _) (by omega) (by have := SZ.out; simp; omega) ?_; intro g2 c2 w9 ho9 hgr9 hat9 hl9; have O9 := yab ho9; have B9 := yab ((BA.out _).grown hgr9 (BA.out _).size (fun k e => (HLt.out k e).1)); clear ho9 hgr9 hat9 hl9)
   go_roundw
   case rel => exact ⟨i + 1, by omega, by go_num, by rw [ex, evs_snoc]; exact O9.out, B9⟩
   case measure => simp [intOf]; omega
  ·have ei : i = l.length := by omega
   subst ei
   have d1 : decide ((l.length : Int) < (l.length : Int)) = false := by simp
   rw [List.take_length] at ho
   go_wp2
   go_loopw [5, 7] (fun xv iv wr => ∃ i : Nat, i ≤ m.length ∧ iv = .int .i64 i ∧ wr.ownsRow w.heap.size 82 2 xv (yaa l (m.take i)).length (evs (yaa l (m.take i))) ∧ Hid (Below w.heap.size w wr)) (fun _ iv _ => m.length - (intOf iv).toNat)
   case atStart => exact ⟨0, Nat.zero_le _, rfl, ho, hb⟩
   case round =>
    clear ho hb
    obtain ⟨i, hi, rfl, ho, hb⟩ := hrel
    by_cases hil : i < m.length
    ·have d2 : decide ((i : Int) < (m.length : Int)) = true := by simp; omega
     obtain ⟨x, hx⟩ : ∃ x, m[i]? = some x := ⟨_, List.getElem?_eq_getElem hil⟩
     obtain ⟨g, rfl, hg, c0, c1⟩ := (HU.out.below hb.out).cells hx
     have ex := ytm (a := l) hx
     have hlen : (yaa l (m.take i)).length ≤ 1000000000 := by
      have := ygn l (m.take i)
      rw [List.length_take] at this
      omega
     have CH := yab (ykc _ (yaa l (m.take i)) x _ (EvL.own ho))
     unfold evV at CH
     have HLt := yab (World.ownsRow.lt ho)
     have OK : Hid (∀ V, Below wr.heap.size wr V → V.ownsRow w.heap.size 82 2 u5 (yaa l (m.take i)).length (evs (yaa l (m.take i)))) := fun V hV => yae ho (fun k e => hV.block k (World.ownsRow.lt ho k e).2)
     have SZ := yab hb.out.size
     clear ho hx
     generalize yaa l (m.take i) = y at *
     cases hd : yla y x
     ·rw [hd] at CH
      have e2 : addE y x = y ++ [x] := by unfold addE; rw [hd]; rfl
      rw [e2] at ex
      go_wp2_with (first
       |(go_at_call 57; refine CH.out.mono ?_; rintro e w1 ⟨rfl, hb1⟩; have B1 := yab (ycp hb.out hb1); have O1 := yab (OK.out _ hb1); have k0 := (hb1.cell (p := ⟨g, i * 2, none⟩) hg).trans c0; have k1 := (hb1.cell (p := ⟨g, i * 2 + 1, none⟩) hg).trans c1; clear hb1)
       |(at_builtin; refine app_ev _ rfl (.tmp 36) (.tmp 41) rfl w.heap.size u5 y.length (evs y) rfl (yae O1.out (fun k e => Below.heap_alloc _ _ _ (World.ownsRow.lt O1.out k e).2)) w1.heap.size x.1 x.2 rfl (heap_alloc_new _ _) (by omega) (by have := B1.out.size; simp; omega) ?_; intro g2 c2 w9 ho9 hgr9 hat9 hl9; have O9 := yab ho9; have B9 := yab ((B1.out.alloc B1.out.size _).grown hgr9 (B1.out.alloc B1.out.size _).size (fun k e => (HLt.out k e).1)); clear ho9 hgr9 hat9 hl9))
      go_roundw
      case rel => exact ⟨i + 1, by omega, by go_num, by rw [ex, evs_snoc, List.length_append]; exact O9.out, B9⟩
      case measure => simp [intOf]; omega
     ·rw [hd] at CH
      have e2 : addE y x = y := by unfold addE; rw [hd]; rfl
      rw [e2] at ex
      go_wp2_with (go_at_call 57; refine CH.out.mono ?_; rintro e w1 ⟨rfl, hb1⟩; have B1 := yab (ycp hb.out hb1); have O1 := yab (OK.out _ hb1); clear hb1)
      go_roundw
      case rel => exact ⟨i + 1, by omega, by go_num, by rw [ex]; exact O1.out, B1⟩
      case measure => simp [intOf]; omega
    ·have ei : i = m.length := by omega
     subst ei
     have d2 : decide ((m.length : Int) < (m.length : Int)) = false := by simp
     rw [List.take_length] at ho
     go_wp2
     go_ret
     exact ⟨_, rfl, ho, hb.out⟩
end Go.Proofs.YtaelaldmibgibaaGreat

namespace Go.Proofs.YtaelaldmibgibaaGreat
open Go.RowKit
def yed (g : ycf) (m h : Value) : List Value := [.bool g.there, .string g.text, .int .i64 g.birth.1, .int .i64 g.birth.2, m, h]
structure Gst where
 c : Nat → Int
 ps : List ByteArray
 pa : Nat → ByteArray → ycf
structure GD where
 cv : Value
 pv : Value
 sv : Value
 rv : Nat → Value
 mv : Nat → ByteArray → Value
 hv : Nat → ByteArray → Value
def ybs (ρ : Nat → Nat) (v : Value) (x : Nat) : Prop := ∀ k, v.ownBlock = some k → ρ k = x
def ymm (G : Gst) (D : GD) (r : Nat) (q : List ByteArray) : List Value := (q.map fun p => yed (G.pa r p) (D.mv r p) (D.hv r p)).flatten
structure Gh (z : Nat) (w : World) (gb n : Nat) (ρ : Nat → Nat) (G : Gst) (D : GD) (q : Nat → List ByteArray) : Prop where
 n1 : 1 ≤ n
 n6 : n ≤ 6
 blk : w.heap[gb]? = some (.cells #[D.cv, D.pv, D.sv] 39 (0, 0))
 cr : w.ownsRow 0 3 1 D.cv n (ivs ((List.range n).map G.c))
 pr : w.ownsRow 0 9 1 D.pv G.ps.length (svs G.ps)
 sr : w.ownsRow 0 87 1 D.sv n ((List.range n).map D.rv)
 rr : ∀ r < n, w.ownsRow 0 86 6 (D.rv r) (q r).length (ymm G D r (q r))
 ev : ∀ r < n, ∀ p ∈ q r, EvL w (D.mv r p) (G.pa r p).made ∧ EvL w (D.hv r p) (G.pa r p).heard
 rb : ρ gb = 1
 rc : ybs ρ D.cv 2
 rp : ybs ρ D.pv 3
 rs : ybs ρ D.sv 4
 re : ∀ r < n, ∀ p ∈ q r, ybs ρ (D.mv r p) 5 ∧ ybs ρ (D.hv r p) 5
 rw : ∀ r < n, ybs ρ (D.rv r) (6 + r)
 lt : ∀ k, ρ k ≠ 0 → k < w.heap.size
 lo : ∀ k, ρ k ≠ 0 → z ≤ k
section
variable {z : Nat} {w w' : World} {gb n : Nat} {ρ : Nat → Nat} {G : Gst} {D : GD} {q : Nat → List ByteArray}
theorem Gh.keep (h : Gh z w gb n ρ G D q) (hs : w.heap.size ≤ w'.heap.size) (hk : ∀ k, ρ k ≠ 0 → w'.heap[k]? = w.heap[k]?) : Gh z w' gb n ρ G D q where
 n1 := h.n1
 n6 := h.n6
 blk := by rw [hk gb (by rw [h.rb]; decide)]; exact h.blk
 cr := yae h.cr (fun k e => hk k (by rw [h.rc k e]; decide))
 pr := yae h.pr (fun k e => hk k (by rw [h.rp k e]; decide))
 sr := yae h.sr (fun k e => hk k (by rw [h.rs k e]; decide))
 rr := fun r hr => yae (h.rr r hr) (fun k e => hk k (by rw [h.rw r hr k e]; omega))
 ev := fun r hr p hp => ⟨yae (h.ev r hr p hp).1 (fun k e => hk k (by rw [(h.re r hr p hp).1 k e]; decide)), yae (h.ev r hr p hp).2 (fun k e => hk k (by rw [(h.re r hr p hp).2 k e]; decide))⟩
 rb := h.rb
 rc := h.rc
 rp := h.rp
 rs := h.rs
 re := h.re
 rw := h.rw
 lt := fun k hk' => Nat.lt_of_lt_of_le (h.lt k hk') hs
 lo := h.lo
theorem Gh.below (h : Gh z w gb n ρ G D q) (hb : Below w.heap.size w w') : Gh z w' gb n ρ G D q := h.keep hb.size (fun k hk => hb.block k (h.lt k hk))
theorem Gh.fr {F : Nat → Prop} (h : Gh z w gb n ρ G D q) (hf : Fr F w w') (hd : ∀ k, ρ k ≠ 0 → ¬ F k) : Gh z w' gb n ρ G D q := h.keep hf.size (fun k hk => hf.block k (h.lt k hk) (hd k hk))
theorem Gh.glt (h : Gh z w gb n ρ G D q) : gb < w.heap.size := h.lt gb (by rw [h.rb]; decide)
theorem Gh.c0 (h : Gh z w gb n ρ G D q) : w.cell? ⟨gb, 0, none⟩ = some D.cv := by simp [World.cell?, h.blk]
theorem Gh.c1 (h : Gh z w gb n ρ G D q) : w.cell? ⟨gb, 1, none⟩ = some D.pv := by simp [World.cell?, h.blk]
theorem Gh.c2 (h : Gh z w gb n ρ G D q) : w.cell? ⟨gb, 2, none⟩ = some D.sv := by simp [World.cell?, h.blk]
theorem Gh.fz (h : Gh z w gb n ρ G D q) (j : Nat) : w.frozen? ⟨gb, j, none⟩ = false := by simp [World.frozen?, h.blk]
theorem yam {w : World} {base : Nat} {e : TypeId} {sz : Nat} {v : Value} {m : Nat} {xs : List Value} (h : w.ownsRow base e sz v m xs) : ∃ a cap, v = .slice a m cap := by
 rcases h.2 with ⟨e, z⟩ | ⟨g, cap, cur, e, _⟩
 ·exact ⟨none, 0, by rw [e, z]⟩
 ·exact ⟨_, _, e⟩
theorem yta {w : World} {base : Nat} {e : TypeId} {sz : Nat} {v : Value} {m : Nat} {xs : List Value} (h : w.ownsRow base e sz v m xs) : m ≤ 9223372036854775807 := by
 rcases h.2 with ⟨e, z⟩ | ⟨g, cap, cur, e, _, _, q1, q2, _⟩
 ·omega
 ·unfold maxLen at q2; omega
theorem Gh.count (h : Gh z w gb n ρ G D q) : ∃ g cap, D.cv = .slice (some ⟨g, 0, none⟩) n cap ∧ g < w.heap.size ∧ ρ g = 2 ∧ (∀ r < n, w.cell? ⟨g, r, none⟩ = some (.int .i64 (G.c r))) ∧ ∀ k, w.frozen? ⟨g, k, none⟩ = false := by
 have h1 := h.n1
 obtain ⟨g, cap, e, _, hl⟩ := World.ownsRow.form h.cr (by omega)
 have hc := h.cr
 rw [e] at hc
 refine ⟨g, cap, e, hl, h.rc g (by rw [e]; rfl), fun r hr => ?_, fun k => World.ownsRow.frozenAt hc k⟩
 rw [World.ownsRow.cellAt hc r (by omega)]
 simp [ivs, List.getElem?_map, List.getElem?_range hr]
theorem Gh.rows (h : Gh z w gb n ρ G D q) : ∃ g cap, D.sv = .slice (some ⟨g, 0, none⟩) n cap ∧ g < w.heap.size ∧ ρ g = 4 ∧ (∀ r < n, w.cell? ⟨g, r, none⟩ = some (D.rv r)) ∧ ∀ k, w.frozen? ⟨g, k, none⟩ = false := by
 have h1 := h.n1
 obtain ⟨g, cap, e, _, hl⟩ := World.ownsRow.form h.sr (by omega)
 have hc := h.sr
 rw [e] at hc
 refine ⟨g, cap, e, hl, h.rs g (by rw [e]; rfl), fun r hr => ?_, fun k => World.ownsRow.frozenAt hc k⟩
 rw [World.ownsRow.cellAt hc r (by omega)]
 simp [List.getElem?_map, List.getElem?_range hr]
theorem Gh.path (h : Gh z w gb n ρ G D q) {i : Nat} {p : ByteArray} (hi : G.ps[i]? = some p) : ∃ g cap, D.pv = .slice (some ⟨g, 0, none⟩) G.ps.length cap ∧ g < w.heap.size ∧ w.cell? ⟨g, i, none⟩ = some (.string p) := by
 have hlt := (List.getElem?_eq_some_iff.1 hi).1
 obtain ⟨g, cap, e, _, hl⟩ := World.ownsRow.form h.pr (by omega)
 have hc := h.pr
 rw [e] at hc
 refine ⟨g, cap, e, hl, ?_⟩
 rw [World.ownsRow.cellAt hc i (by omega)]
 simp [svs, List.getElem?_map, hi]
theorem flat6 {α : Type} (f : α → List Value) (hf : ∀ x, (f x).length = 6) : ∀ (l : List α) (i : Nat) (x : α), l[i]? = some x → ∀ j < 6, (l.map f).flatten[i * 6 + j]? = (f x)[j]?
 |[], i, x, h => by simp at h
 |y :: l, 0, x, h => fun j hj => by
  simp at h
  subst h
  rw [List.map_cons, List.flatten_cons, List.getElem?_append_left (by rw [hf]; omega)]
  simp
 |y :: l, i + 1, x, h => fun j hj => by
  have ih := flat6 f hf l i x (by simpa using h) j hj
  rw [List.map_cons, List.flatten_cons, List.getElem?_append_right (by rw [hf]; omega), hf]
  rw [show (i + 1) * 6 + j - 6 = i * 6 + j by omega]
  exact ih
theorem Gh.past (h : Gh z w gb n ρ G D q) {r : Nat} (hr : r < n) {i : Nat} {p : ByteArray} (hi : (q r)[i]? = some p) : ∃ g cap, D.rv r = .slice (some ⟨g, 0, none⟩) (q r).length cap ∧ g < w.heap.size ∧ ρ g = 6 + r ∧ (∀ j < 6, w.cell? ⟨g, i * 6 + j, none⟩ = (yed (G.pa r p) (D.mv r p) (D.hv r p))[j]?) ∧ ∀ k, w.frozen? ⟨g, k, none⟩ = false := by
 have hlt := (List.getElem?_eq_some_iff.1 hi).1
 obtain ⟨g, cap, e, _, hl⟩ := World.ownsRow.form (h.rr r hr) (by omega)
 have hc := h.rr r hr
 rw [e] at hc
 refine ⟨g, cap, e, hl, h.rw r hr g (by rw [e]; rfl), fun j hj => ?_, fun k => World.ownsRow.frozenAt hc k⟩
 rw [World.ownsRow.cellAt hc _ (by omega)]
 exact flat6 (fun p => yed (G.pa r p) (D.mv r p) (D.hv r p)) (fun _ => rfl) (q r) i p hi j hj
end
end Go.Proofs.YtaelaldmibgibaaGreat
