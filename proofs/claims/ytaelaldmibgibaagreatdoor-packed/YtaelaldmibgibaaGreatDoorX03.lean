/- Small facts on worlds for the proofs of this seat: what a ca. -/
import Derived.Test.YtaelaldmibgibaaGreatDoorRows
import Derived.WalkSpells
import Derived.WalkLawsBesides
import Derived.Deep.AppendLies
import Derived.Deep.MidRow

set_option linter.all false
set_option maxHeartbeats 400000

namespace Go.Proofs.K
open Go.RowKit
variable {p : Prop} {W a b c w w' w1 : World} {S T : Nat → Prop} {B base k n size : Nat} {v : Value} {e ty : TypeId} {xs : List Value} {P : Program} {fn : Func} {tmps : Array Value}
theorem yab (h : p) : Hid p := h
theorem yec (h : Below w.heap.size w W) (hb : Below W.heap.size W w1) : Below w.heap.size w w1 := h.trans (hb.mono h.size)
structure Fr (S : Nat → Prop) (w w' : World) : Prop where
 os : w'.os = w.os
 tape : w'.tape = w.tape
 output : w'.output = w.output
 size : w.heap.size ≤ w'.heap.size
 block : ∀ k, k < w.heap.size → ¬ S k → w'.heap[k]? = w.heap[k]?
theorem Fr.refl (S : Nat → Prop) (w : World) : Fr S w w := ⟨rfl, rfl, rfl, Nat.le_refl _, fun _ _ _ => rfl⟩
theorem Fr.trans (h : Fr S a b) (k : Fr S b c) : Fr S a c :=
 ⟨k.os.trans h.os, k.tape.trans h.tape, k.output.trans h.output, Nat.le_trans h.size k.size, fun i hi hs => (k.block i (Nat.lt_of_lt_of_le hi h.size) hs).trans (h.block i hi hs)⟩
theorem Fr.mono (h : Fr S w w') (hST : ∀ k, k < w.heap.size → S k → T k) : Fr T w w' :=
 ⟨h.os, h.tape, h.output, h.size, fun i hi hs => h.block i hi (fun q => hs (hST i hi q))⟩
theorem Fr.trans' (h : Fr S a b) (k : Fr T b c) (hTS : ∀ i, i < a.heap.size → T i → S i) : Fr S a c :=
 ⟨k.os.trans h.os, k.tape.trans h.tape, k.output.trans h.output, Nat.le_trans h.size k.size,
  fun i hi hs => (k.block i (Nat.lt_of_lt_of_le hi h.size) (fun q => hs (hTS i hi q))).trans (h.block i hi hs)⟩
theorem Fr.of_below (h : Below w.heap.size w w') : Fr S w w' :=
 ⟨h.os, h.tape, h.output, h.size, fun i hi _ => h.block i hi⟩
theorem Fr.below (h : Fr (fun k => B ≤ k) w w') (hB : B ≤ w.heap.size) : Below B w w' :=
 ⟨h.os, h.tape, h.output, h.size, fun i hi => h.block i (by omega) (by omega)⟩
theorem Fr.alloc (h : Fr S a w) (o : Obj) : Fr S a (w.alloc o) :=
 h.trans ⟨rfl, rfl, rfl, by simp, fun k hk _ => Below.heap_alloc _ _ _ hk⟩
theorem Fr.setCell (h : Fr S a w) {p : Addr} (hp : S p.block ∨ a.heap.size ≤ p.block) (u : Value) : Fr S a (w.setCell p u) :=
 ⟨h.os, h.tape, h.output, by simpa [World.setCell] using h.size, fun k hk hs => by
  rw [Below.heap_setCell _ _ _ _ (by rintro rfl; rcases hp with hp | hp; exact hs hp; omega)]; exact h.block k hk hs⟩
theorem Fr.cell (h : Fr S w w') {p : Addr} (hp : p.block < w.heap.size) (hs : ¬ S p.block) : w'.cell? p = w.cell? p := World.cell?_of_block (w := w) (h.block p.block hp hs)
def cv (w : World) (k j : Nat) : Value := (w.cell? ⟨k, j, none⟩).getD (.bool false)
theorem cv_eq {j : Nat} (h : (w.cell? ⟨k, j, none⟩).isSome = true) : w.cell? ⟨k, j, none⟩ = some (cv w k j) := by
 unfold cv
 cases hc : w.cell? ⟨k, j, none⟩ with
 |none => rw [hc] at h; cases h
 |some v => rfl
structure ycj (w : World) (k n : Nat) (w' : World) : Prop where
 below : Below w.heap.size w w'
 ge : w.heap.size ≤ k
 lt : k < w'.heap.size
 some : ∀ j, j < n → (w'.cell? ⟨k, j, none⟩).isSome = true
 fz : ∀ j, w'.frozen? ⟨k, j, none⟩ = false
theorem ycj.made (w : World) (cs : Array Value) (t : TypeId) : ycj w w.heap.size cs.size (w.alloc (.cells cs t)) := by
 refine ⟨(Below.refl _ _).alloc (Nat.le_refl _) _, Nat.le_refl _, by simp, fun j hj => ?_, fun j => ?_⟩
 ·simp only [World.cell?, heap_alloc_new]; simpa using hj
 ·simp only [World.frozen?, heap_alloc_new]; simp
theorem ycj.made' (w : World) (cs : Array Value) (t : TypeId) (h : cs.size = n) : ycj w w.heap.size n (w.alloc (.cells cs t)) := h ▸ ycj.made w cs t
theorem ycj.call (h : ycj w k n W ∧ p) (hb : Below W.heap.size W w1) : ycj w k n w1 :=
 ⟨h.1.below.trans (hb.mono h.1.below.size), h.1.ge, Nat.lt_of_lt_of_le h.1.lt hb.size, fun j hj => by rw [hb.cell h.1.lt]; exact h.1.some j hj, fun j => by rw [hb.frozen h.1.lt]; exact h.1.fz j⟩
theorem ycj.drew (h : ycj w k n W) : ycj w k n W.drew := ⟨h.below.drew, h.ge, h.lt, h.some, h.fz⟩
theorem ycj.drewN (h : ycj w k n W) (m : Nat) : ycj w k n (W.drewN m) := ⟨⟨h.below.os, h.below.tape, h.below.output, h.below.size, h.below.block⟩, h.ge, h.lt, h.some, h.fz⟩
theorem ycj.alloc (h : ycj w k n W) (o : Obj) : ycj w k n (W.alloc o) :=
 ycj.call (p := True) ⟨h, trivial⟩ ((Below.refl _ _).alloc (Nat.le_refl _) o)
theorem yej {a x : Addr} (h : (w.cell? a).isSome = true) : ((w.setCell x v).cell? a).isSome = true := by
 cases hc : w.cell? a with
 |none => rw [hc] at h; cases h
 |some u =>
  obtain ⟨v', hv⟩ := cell?_setCell_some (w := w) (p := x) (x := v) (q := a) (v := u) hc
  rw [hv]; rfl
theorem ycj.setCell (h : ycj w k n W) (x : Addr) (hx : x.block = k ∨ w.heap.size ≤ x.block) (v : Value) : ycj w k n (W.setCell x v) :=
 ⟨h.below.setCell (by have := h.ge; omega) v, h.ge, by simpa [World.setCell] using h.lt, fun j hj => yej (h.some j hj), fun j => by rw [World.frozen?_setCell]; exact h.fz j⟩
theorem ycj.there (h : ycj w k n W) : W.there k 0 n := fun j hj => ⟨by simpa using h.some j hj, h.fz _⟩
theorem Below.setCells (h : Below B a w) {b : Nat} (hp : B ≤ b) (vs : List Value) (o : Nat) : Below B a (w.setCells b o vs) := by
 induction vs generalizing o w with
 |nil => exact h
 |cons v vs ih => exact ih (h.setCell (p := ⟨b, o, none⟩) hp v) (o + 1)
theorem yfy (w : World) (b o : Nat) (vs : List Value) (k : Nat) (h : k ≠ b) : (w.setCells b o vs).heap[k]? = w.heap[k]? := by
 induction vs generalizing o w with
 |nil => rfl
 |cons v vs ih => simp only [World.setCells]; rw [ih, Below.heap_setCell _ _ _ _ h]
theorem yvs (w : World) (b o : Nat) (vs : List Value) : (w.setCells b o vs).heap.size = w.heap.size := by
 induction vs generalizing o w with
 |nil => rfl
 |cons v vs ih => simp only [World.setCells]; rw [ih]; simp [World.setCell]
theorem ycj.setCells (h : ycj w k n W ∧ p) (o : Nat) (vs : List Value) : ycj w k n (W.setCells k o vs) :=
 ⟨Below.setCells h.1.below h.1.ge vs o, h.1.ge, Nat.lt_of_lt_of_le h.1.lt (Below.setCells (Below.refl 0 W) (Nat.zero_le _) vs o).size, fun j hj => World.isSome_setCells k vs o W _ (h.1.some j hj), fun j => by rw [World.frozen?_setCells]; exact h.1.fz j⟩
theorem yas (h : w.ownsRow base e size v n xs)
  (hk : ∀ k, v.ownBlock = some k → w'.heap[k]? = w.heap[k]?) : w'.ownsRow base e size v n xs := by
 refine ⟨h.1, ?_⟩
 rcases h.2 with h0 | ⟨g, cap, cur, hv, hb, hg, r⟩
 ·exact .inl h0
 ·exact .inr ⟨g, cap, cur, hv, hb, by rw [hk g (by rw [hv]; rfl)]; exact hg, r⟩
theorem ydp {base' : Nat} (h : w.ownsRow base e size v n xs) (hb : ∀ k, v.ownBlock = some k → base' ≤ k) : w.ownsRow base' e size v n xs := by
 refine ⟨h.1, ?_⟩
 rcases h.2 with h0 | ⟨g, cap, cur, hv, _, r⟩
 ·exact .inl h0
 ·exact .inr ⟨g, cap, cur, hv, hb g (by rw [hv]; rfl), r⟩
theorem yum {α β : Type} (f : α → β) (l : List α) (k : Nat) (d : α) (h : k < l.length) : (l.take k).map f ++ [f (l.getD k d)] = (l.take (k + 1)).map f := by
 rw [List.take_succ_eq_append_getElem h, List.map_append]
 simp [List.getElem?_eq_getElem h]
def ivs (l : List Int) : List Value := l.map (Value.int .i64)
def svs (l : List ByteArray) : List Value := l.map Value.string
theorem svs_length (l : List ByteArray) : (svs l).length = l.length := by simp [svs]
theorem yke (a b : List ByteArray) : svs (a ++ b) = svs a ++ svs b := by simp [svs]
theorem yxz {p : Tmp} (h : fn.results = #[.cell p ty]) {a : Addr} (ha : tmps.getD p undef = .pointer (some a)) 
  (hl : (loadVar ty a).run P w = .ok v w) : (results fn tmps).run P w = .ok v w := by
 have ha' : tmps[p]?.getD undef = .pointer (some a) := by simpa using ha
 simp only [results, h]
 simp [ha', asAddr, hl]
theorem yam {p u : Tmp} (h : fn.results = #[.cell p ty, .tmp u]) {a : Addr} (ha : tmps.getD p undef = .pointer (some a)) 
  (hl : (loadVar ty a).run P w = .ok v w) : (results fn tmps).run P w = .ok (.tuple #[v, tmps.getD u undef]) w := by
 have ha' : tmps[p]?.getD undef = .pointer (some a) := by simpa using ha
 simp only [results, h]
 simp [Result.andThen, ha', asAddr, hl]
theorem yan {b : Nat} {cs : List Value} {d : TypeDesc} (ht : w.there b 0 cs.length) (hu : P.underlying ty = some d) (hd : d.isRow = true) (hi : (P.info? ty).map (·.size) = some cs.length) :
  (loadVar ty ⟨b, 0, none⟩).run P (w.setCells b 0 cs) = .ok (.agg cs.toArray) (w.setCells b 0 cs) :=
 run_loadVar_mid _ b 0 ty cs d (World.rangeAt_setCells_same w b 0 cs ht) hu hd hi
theorem size_Spot : (Tryz.prog.info? 117).map (·.size) = some 6 := by kernel_rfl
theorem info_int : (Tryz.prog.info? 3).map (fun i => (i.zero, i.size, i.bytes)) = some (some (.int .i64 0), 1, 8) := by kernel_rfl
theorem yku : (Tryz.prog.info? 9).map (fun i => (i.zero, i.size, i.bytes)) = some (some (.string .empty), 1, 16) := by kernel_rfl
end Go.Proofs.K

namespace Go.Proofs.K
open Go.RowKit
def ybg (c : UInt8) : Bool := c == 47 || (decide (97 ≤ c) && decide (c ≤ 122))
def ybm (s : ByteArray) : Bool := decide (1 ≤ s.size ∧ s.size ≤ 12) && s.data.toList.all ybg
variable {c : UInt8}
theorem yto (s : ByteArray) (k : Nat) (h : k < s.size) (ha : (s.data.toList.take k).all ybg = true) (hb : ybg s[k] = true) :
  (s.data.toList.take (k + 1)).all ybg = true := by
 have hl : k < s.data.toList.length := by simpa using h
 rw [List.take_succ_eq_append_getElem hl, List.all_append, ha]
 simp only [List.all_cons, List.all_nil, Bool.and_true, Bool.true_and]
 exact hb
theorem pathOk_end (s : ByteArray) (k : Nat) (h : ¬ k < s.size) (ha : (s.data.toList.take k).all ybg = true) : s.data.toList.all ybg = true := by
 have hl : s.data.toList.length ≤ k := by rw [Array.length_toList]; exact Nat.le_of_not_lt h
 rwa [List.take_of_length_le hl] at ha
theorem pathOk_bad (s : ByteArray) (k : Nat) (h : k < s.size) (hb : ybg s[k] = false) : ybm s = false := by
 unfold ybm
 have : s.data.toList.all ybg = false := by
  rw [List.all_eq_false]
  exact ⟨s[k], Array.getElem_mem_toList (by exact h), by rw [hb]; simp⟩
 rw [this, Bool.and_false]
theorem yxl (h : (c.toNat : Int) = 47 ∨ ((97 : Int) ≤ c.toNat ∧ (c.toNat : Int) ≤ 122)) : ybg c = true := by
 unfold ybg
 rcases h with h | h
 ·have : c = 47 := UInt8.toNat_inj.1 (by simp; omega)
  simp [this]
 ·have h1 : 97 ≤ c := by rw [UInt8.le_iff_toNat_le]; simp; omega
  have h2 : c ≤ 122 := by rw [UInt8.le_iff_toNat_le]; simp; omega
  simp [h1, h2]
theorem pathByte_no (h : (c.toNat : Int) ≠ 47) (h' : (c.toNat : Int) < 97 ∨ (122 : Int) < c.toNat) : ybg c = false := by
 unfold ybg
 have h0 : (c == 47) = false := by
  rw [beq_eq_false_iff_ne]; rintro rfl; simp at h
 rcases h' with h' | h'
 ·have h1 : ¬ 97 ≤ c := by rw [UInt8.le_iff_toNat_le]; simp; omega
  simp [h0, h1]
 ·have h1 : ¬ c ≤ 122 := by rw [UInt8.le_iff_toNat_le]; simp; omega
  simp [h0, h1]
theorem ykk (c : UInt8) (w : World) :
  Calls Tryz.prog 167 #[.int .u8 c.toNat] w fun e w' => e = .returned (.bool (ybg c)) ∧ w' = w := by
 have rr : Hid (∀ b, b = ybg c → Ending.returned (.bool b) = .returned (.bool (ybg c))) := fun b h => by rw [h]
 have Y : Hid (((c.toNat : Int) = 47 ∨ ((97 : Int) ≤ c.toNat ∧ (c.toNat : Int) ≤ 122)) → ybg c = true) := yxl
 have N : Hid ((c.toNat : Int) ≠ 47 → ((c.toNat : Int) < 97 ∨ (122 : Int) < c.toNat) → ybg c = false) := pathByte_no
 generalize hx : (c.toNat : Int) = x at *
 clear hx
 by_cases h1 : x = 47
 ·have hb : (x == 47) = true := by simp [h1]
  go_enter Tryz.func167, Tryz.ntmps167
  go_wp2
  go_ret
  exact ⟨rr.out _ (Y.out (.inl h1)).symm, rfl⟩
 ·have hb : (x == 47) = false := by simp [h1]
  by_cases h2 : 97 ≤ x
  ·by_cases h3 : x ≤ 122
   ·go_enter Tryz.func167, Tryz.ntmps167
    go_wp2
    go_ret
    exact ⟨rr.out _ (by rw [Y.out (.inr ⟨h2, h3⟩)]), rfl⟩
   ·go_enter Tryz.func167, Tryz.ntmps167
    go_wp2
    go_ret
    exact ⟨rr.out _ (by rw [N.out h1 (.inr (by omega))]), rfl⟩
  ·go_enter Tryz.func167, Tryz.ntmps167
   go_wp2
   go_ret
   exact ⟨rr.out _ (N.out h1 (.inl (by omega))).symm, rfl⟩
theorem ysj (s : ByteArray) (w : World) (hs : s.size ≤ maxLen) :
  Calls Tryz.prog 103 #[.string s] w fun e w' => e = .returned (.bool (ybm s)) ∧ w' = w := by
 unfold maxLen at hs
 by_cases hlen : 1 ≤ s.size ∧ s.size ≤ 12
 ·obtain ⟨hl1, hl2⟩ := hlen
  have d1 : decide ((s.size : Int) < 1) = false := by simp; omega
  have d2 : decide ((12 : Int) < (s.size : Int)) = false := by simp; omega
  go_enter Tryz.func103, Tryz.ntmps103
  go_wp2
  clear d1 d2
  go_loop [14] (fun i => ∃ k : Nat, k ≤ s.size ∧ i = .int .i64 k ∧ Hid ((s.data.toList.take k).all ybg = true)) (fun i => s.size - (intOf i).toNat)
  case atStart => exact ⟨0, Nat.zero_le _, rfl, by unfold Hid; simp⟩
  case round =>
   obtain ⟨k, hk, rfl, ha⟩ := hrel
   by_cases hlt : k < s.size
   ·have ha' : Hid (ybg s[k] = true → (s.data.toList.take (k + 1)).all ybg = true) := fun h => yto s k hlt ha h
    have hbad : Hid (ybg s[k] = false → Ending.returned (.bool false) = .returned (.bool (ybm s))) := fun h => by rw [pathOk_bad s k hlt h]
    cases hp : ybg s[k] with
    |true =>
     have HP := ha'.out hp
     have HY : Hid ((s.data.toList.take (k + 1)).all ybg = true) := HP
     clear HP ha' hbad
     go_wp2_with (go_at_call 167; refine (ykk _ _).mono ?_; rintro e w' ⟨rfl, rfl⟩)
     go_round
     case rel => exact ⟨k + 1, by omega, by go_num, HY⟩
     case measure => simp [intOf]; omega
    |false =>
     have HP := hbad.out hp
     have HY : Hid (Ending.returned (.bool false) = .returned (.bool (ybm s))) := HP
     clear HP ha' hbad
     go_wp2_with (go_at_call 167; refine (ykk _ _).mono ?_; rintro e w' ⟨rfl, rfl⟩)
     go_ret
     exact ⟨HY.out, rfl⟩
   ·have he : Hid (Ending.returned (.bool true) = .returned (.bool (ybm s))) := by
     unfold Hid
     rw [ybm, pathOk_end s k hlt ha, Bool.and_true]
     simp [hl1, hl2]
    go_wp2
    go_ret
    exact ⟨he.out, rfl⟩
 ·have he : Hid (Ending.returned (.bool false) = .returned (.bool (ybm s))) := by
   unfold Hid
   rw [ybm, decide_eq_false hlen, Bool.false_and]
  by_cases h1 : s.size < 1
  ·have d1 : decide ((s.size : Int) < 1) = true := by simp; omega
   go_enter Tryz.func103, Tryz.ntmps103
   go_wp2
   go_ret
   exact ⟨he.out, rfl⟩
  ·have d1 : decide ((s.size : Int) < 1) = false := by simp; omega
   have d2 : decide ((12 : Int) < (s.size : Int)) = true := by simp; omega
   go_enter Tryz.func103, Tryz.ntmps103
   go_wp2
   go_ret
   exact ⟨he.out, rfl⟩
end Go.Proofs.K

namespace Go.Proofs.K
open Go.RowKit
structure SP where
 there : Bool
 text : ByteArray
 by_ : Int
 num : Int
 chv : Value
 ch : List Int
 tmv : Value
 tm : List Int
structure RSd where
 n : Nat
 paths : List ByteArray
 pv : Value
 cv : Value
 sv : Value
 coms : List (Value × List Int)
 rows : List (Value × List SP)
section
variable {ops : Array Oper} {rest : List Oper} {o : Oper} {a : Act} {Q : Exit → Act → World → Prop} (w : World)
theorem app_str (hgd : o.guard = none) (s x : Operand) (ho : o.op = .call { callee := .builtin .append, args := #[s, x], argTypes := #[25, 25] }) (base : Nat) (v : Value) (n : Nat) (xs : List Value) (hs : a.eval s = v) (hown : w.ownsRow base 9 1 v n xs)
  (k : Nat) (y : ByteArray) (hx : a.eval x = .slice (some ⟨k, 0, none⟩) 1 1) (hc : w.cell? ⟨k, 0, none⟩ = some (.string y)) (hn : n ≤ 1000000000000) (hb : base ≤ w.heap.size)
  (h : ∀ g cap w1, w1.ownsRow base 9 1 (.slice (some ⟨g, 0, none⟩) (n + 1) cap) (n + 1) (xs ++ [.string y]) → w.grownBy w1 v.ownBlock → (v.ownBlock = some g ∨ g = w.heap.size) → g < w1.heap.size → wpList Tryz.prog ops Q rest (a.put o.dst (.slice (some ⟨g, 0, none⟩) (n + 1) cap)) w1) :
  wpList Tryz.prog ops Q (o :: rest) a w := by
 obtain ⟨i0, hi, hz0, hz1, hz2⟩ := info_parts yku
 refine wpList_append_lies w hgd s x 25 ho base 9 i0 _ 1 16 Tryz.underlying25 hi hz0 hz1 hz2 rfl (by decide) v n xs hs hown ⟨k, 0, none⟩ 1 1 [.string y] hx rfl ?_ ?_ (by omega) (by unfold maxLen; omega) (by omega) hb _ rfl h
 ·intro j u hj
  match j, hj with
  |0, hj => simp at hj; subst hj; simpa [Addr.add] using hc
 ·intro u hu; simp at hu; subst hu; rfl
end
theorem yfx {w W w1 : World} {v : Value} (hb : Below w.heap.size w W) (hg : W.grownBy w1 v.ownBlock) (hv : ∀ k, v.ownBlock = some k → w.heap.size ≤ k) : Below w.heap.size w w1 :=
 hb.grown hg hb.size hv
end Go.Proofs.K
