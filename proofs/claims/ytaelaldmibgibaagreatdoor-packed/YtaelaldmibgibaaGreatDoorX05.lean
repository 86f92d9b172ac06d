/- The document's answer: spent, fresh, equal, files. -/
import Derived.Deep.RegionHeld3
import Derived.Test.YtaelaldmibgibaaGreatDoorX04

set_option linter.all false
set_option maxHeartbeats 4000000
set_option maxRecDepth 100000

namespace Go.Proofs.K
open Go.RowKit
attribute [local go_sem ↓] Go.wp_at_zero Go.wp_at_succ
def stM (t : TypeId) (p v : Value) : Sem Unit := Instr.storeAt t p v
theorem stSpot (p v : Value) : Instr.storeAt 117 p v = stM 117 p v := rfl
theorem run_stSpot (w : World) (b : Nat) (x0 : Bool) (x1 : ByteArray) (x2 x3 : Int) (a4 a5 : Option Addr) (n4 c4 n5 c5 : Nat) (ht : w.there b 0 6) :
  (stM 117 (.pointer (some ⟨b, 0, none⟩)) (.agg #[.bool x0, .string x1, .int .i64 x2, .int .i64 x3, .slice a4 n4 c4, .slice a5 n5 c5])).run Tryz.prog w =
   .ok () (w.setCells b 0 [.bool x0, .string x1, .int .i64 x2, .int .i64 x3, .slice a4 n4 c4, .slice a5 n5 c5]) :=
 run_storeAt_mid w b 0 _ #[.bool x0, .string x1, .int .i64 x2, .int .i64 x3, .slice a4 n4 c4, .slice a5 n5 c5] ht size_Spot (by simp [Value.oneCell'])
attribute [local go_sem ↓] stSpot
attribute [local go_sem] run_stSpot
end Go.Proofs.K

namespace Go.Proofs.K
open Go.RowKit
def slt (a b : ByteArray) : Bool := Op.bytesLess a.toList b.toList
def seq (a b : ByteArray) : Bool := a.toList == b.toList
theorem ydm (a b : ByteArray) : seq a b = true ↔ a = b := by
 unfold seq
 rw [beq_iff_eq, ByteArray.toList_eq, ByteArray.toList_eq]
 constructor
 ·intro h
  cases a; cases b
  simp only [ByteArray.mk.injEq]
  exact Array.toList_inj.1 h
 ·rintro rfl; rfl
variable {a b : ByteArray} {α : Type}
theorem yft (x : List UInt8) : Op.bytesLess x x = false := by
 induction x with
 |nil => rfl
 |cons a x ih => simp [Op.bytesLess, ih]
theorem yjt (x y z : List UInt8) (h : Op.bytesLess x y = true) (h' : Op.bytesLess y z = true) : Op.bytesLess x z = true := by
 induction x generalizing y z with
 |nil =>
  cases z with
  |nil => cases y <;> simp [Op.bytesLess] at h'
  |cons c z => rfl
 |cons a x ih =>
  cases y with
  |nil => simp [Op.bytesLess] at h
  |cons b y =>
   cases z with
   |nil => simp [Op.bytesLess] at h'
   |cons c z =>
    simp only [Op.bytesLess, Bool.or_eq_true, decide_eq_true_eq, Bool.and_eq_true, beq_iff_eq] at *
    rcases h with h | ⟨rfl, h⟩
    ·rcases h' with h' | ⟨rfl, h'⟩
     ·exact .inl (UInt8.lt_trans h h')
     ·exact .inl h
    ·rcases h' with h' | ⟨rfl, h'⟩
     ·exact .inl h'
     ·exact .inr ⟨rfl, ih y z h h'⟩
theorem ywi (x y : List UInt8) (h : Op.bytesLess x y = false) (h' : Op.bytesLess y x = false) : x = y := by
 induction x generalizing y with
 |nil =>
  cases y with
  |nil => rfl
  |cons b y => simp [Op.bytesLess] at h
 |cons a x ih =>
  cases y with
  |nil => simp [Op.bytesLess] at h'
  |cons b y =>
   simp only [Op.bytesLess, Bool.or_eq_false_iff, decide_eq_false_iff_not, Bool.and_eq_false_iff, beq_eq_false_iff_ne] at *
   have e : a = b := by
    apply UInt8.toNat_inj.1
    have h1 := h.1
    have h2 := h'.1
    rw [UInt8.lt_iff_toNat_lt] at h1 h2
    omega
   subst e
   rw [ih y (by simpa using h.2) (by simpa using h'.2)]
theorem ycc (a : ByteArray) : slt a a = false := yft _
theorem ydx {c : ByteArray} (h : slt a b = true) (h' : slt b c = true) : slt a c = true := yjt _ _ _ h h'
theorem yjp (h : slt a b = true) : slt b a = false := by
 cases e : slt b a with
 |false => rfl
 |true => rw [← ycc a]; exact (ydx h e).symm
theorem yqi (h : slt a b = false) (h' : slt b a = false) : a = b := by
 apply (ydm a b).1
 unfold seq
 rw [beq_iff_eq]
 exact ywi _ _ h h'
theorem yjq (h : slt a b = true) : a ≠ b := fun e => by rw [e, ycc] at h; cases h
abbrev Files := List (ByteArray × ByteArray)
theorem ymt (f : α → Bool) (l : List α) (h : ∀ x ∈ l, f x = true) : l.filter f = l := List.filter_eq_self.2 h
theorem yhu (f : α → Bool) (l : List α) (h : ∀ x ∈ l, f x = false) : l.filter f = [] := List.filter_eq_nil_iff.2 (fun x hx => by rw [h x hx]; simp)
structure Abs where
 n : Nat
 F : Nat → Files
 c : Nat → Int
end Go.Proofs.K

namespace Go.Proofs.K
open Go.RowKit
variable {w : World} {b n o : Nat}
theorem yhj : (Tryz.prog.info? 186).map (·.size) = some 6 := by kernel_rfl
def rngv (w : World) (b o n : Nat) : List Value := (List.range n).map (fun j => (w.cell? ⟨b, o + j, none⟩).getD (.bool false))
theorem rngv_eq {cs : List Value} (hl : cs.length = n) (h : w.rangeAt b o cs) : rngv w b o n = cs := by
 apply List.ext_getElem?
 intro i
 unfold rngv
 by_cases hi : i < n
 ·rw [List.getElem?_map, List.getElem?_range hi]
  have hi' : i < cs.length := by omega
  rw [List.getElem?_eq_getElem hi']
  simp only [Option.map_some]
  rw [h i cs[i] (List.getElem?_eq_getElem hi')]
  rfl
 ·rw [List.getElem?_map, List.getElem?_eq_none (by simp; omega), List.getElem?_eq_none (by omega)]
  rfl
theorem ysw (h : ∀ j, j < n → (w.cell? ⟨b, o + j, none⟩).isSome = true) : w.rangeAt b o (rngv w b o n) := by
 intro j v hj
 unfold rngv at hj
 rw [List.getElem?_map] at hj
 by_cases hjn : j < n
 ·rw [List.getElem?_range hjn] at hj
  simp at hj
  have := h j hjn
  cases hc : w.cell? ⟨b, o + j, none⟩ with
  |none => rw [hc] at this; cases this
  |some u => rw [hc] at hj; simp at hj; rw [hj]
 ·rw [List.getElem?_eq_none (by simp; omega)] at hj
  cases hj
theorem yqb (w : World) (b o n : Nat) : (rngv w b o n).length = n := by simp [rngv]
def ldM (t : TypeId) (p : Value) : Sem Value := Instr.loadAt t p
theorem ldTime (p : Value) : Instr.loadAt 186 p = ldM 186 p := rfl
theorem ykp (p v : Value) : Instr.storeAt 186 p v = stM 186 p v := rfl
theorem ysz (w : World) (b o : Nat) (ht : w.there b o 6) : (ldM 186 (.pointer (some ⟨b, o, none⟩))).run Tryz.prog w = .ok (.agg (rngv w b o 6).toArray) w :=
 run_loadAt_mid w b o _ (rngv w b o 6) _ (ysw (fun j hj => (ht j hj).1)) Tryz.underlying186 rfl (by rw [yqb]; exact yhj)
def one (r : Nat) (x : Int) : List Int := (List.replicate 6 0).set r x
theorem Alone_0 (x : Int) (w : World) :
  Calls Tryz.prog 111 #[.agg #[.int .i64 0, .int .i64 x]] w fun e w' => e = .returned (.agg #[.int .i64 x, .int .i64 0, .int .i64 0, .int .i64 0, .int .i64 0, .int .i64 0]) ∧ Below w.heap.size w w' := by
 go_enter Tryz.func111, Tryz.ntmps111
 go_wp2
 refine bodyPost_ret (v := .agg #[.int .i64 x, .int .i64 0, .int .i64 0, .int .i64 0, .int .i64 0, .int .i64 0]) (by simp [results, Tryz.results111, go_sem]) rfl ⟨rfl, ?_⟩
 repeat' (first | exact Below.refl _ _ | refine Below.setCell ?_ (by simp <;> omega) _ | refine Below.alloc ?_ (by simp <;> omega) _ | refine Below.drew ?_)
theorem Alone_1 (x : Int) (w : World) :
  Calls Tryz.prog 111 #[.agg #[.int .i64 1, .int .i64 x]] w fun e w' => e = .returned (.agg #[.int .i64 0, .int .i64 x, .int .i64 0, .int .i64 0, .int .i64 0, .int .i64 0]) ∧ Below w.heap.size w w' := by
 go_enter Tryz.func111, Tryz.ntmps111
 go_wp2
 refine bodyPost_ret (v := .agg #[.int .i64 0, .int .i64 x, .int .i64 0, .int .i64 0, .int .i64 0, .int .i64 0]) (by simp [results, Tryz.results111, go_sem]) rfl ⟨rfl, ?_⟩
 repeat' (first | exact Below.refl _ _ | refine Below.setCell ?_ (by simp <;> omega) _ | refine Below.alloc ?_ (by simp <;> omega) _ | refine Below.drew ?_)
theorem Alone_2 (x : Int) (w : World) :
  Calls Tryz.prog 111 #[.agg #[.int .i64 2, .int .i64 x]] w fun e w' => e = .returned (.agg #[.int .i64 0, .int .i64 0, .int .i64 x, .int .i64 0, .int .i64 0, .int .i64 0]) ∧ Below w.heap.size w w' := by
 go_enter Tryz.func111, Tryz.ntmps111
 go_wp2
 refine bodyPost_ret (v := .agg #[.int .i64 0, .int .i64 0, .int .i64 x, .int .i64 0, .int .i64 0, .int .i64 0]) (by simp [results, Tryz.results111, go_sem]) rfl ⟨rfl, ?_⟩
 repeat' (first | exact Below.refl _ _ | refine Below.setCell ?_ (by simp <;> omega) _ | refine Below.alloc ?_ (by simp <;> omega) _ | refine Below.drew ?_)
theorem Alone_3 (x : Int) (w : World) :
  Calls Tryz.prog 111 #[.agg #[.int .i64 3, .int .i64 x]] w fun e w' => e = .returned (.agg #[.int .i64 0, .int .i64 0, .int .i64 0, .int .i64 x, .int .i64 0, .int .i64 0]) ∧ Below w.heap.size w w' := by
 go_enter Tryz.func111, Tryz.ntmps111
 go_wp2
 refine bodyPost_ret (v := .agg #[.int .i64 0, .int .i64 0, .int .i64 0, .int .i64 x, .int .i64 0, .int .i64 0]) (by simp [results, Tryz.results111, go_sem]) rfl ⟨rfl, ?_⟩
 repeat' (first | exact Below.refl _ _ | refine Below.setCell ?_ (by simp <;> omega) _ | refine Below.alloc ?_ (by simp <;> omega) _ | refine Below.drew ?_)
theorem Alone_4 (x : Int) (w : World) :
  Calls Tryz.prog 111 #[.agg #[.int .i64 4, .int .i64 x]] w fun e w' => e = .returned (.agg #[.int .i64 0, .int .i64 0, .int .i64 0, .int .i64 0, .int .i64 x, .int .i64 0]) ∧ Below w.heap.size w w' := by
 go_enter Tryz.func111, Tryz.ntmps111
 go_wp2
 refine bodyPost_ret (v := .agg #[.int .i64 0, .int .i64 0, .int .i64 0, .int .i64 0, .int .i64 x, .int .i64 0]) (by simp [results, Tryz.results111, go_sem]) rfl ⟨rfl, ?_⟩
 repeat' (first | exact Below.refl _ _ | refine Below.setCell ?_ (by simp <;> omega) _ | refine Below.alloc ?_ (by simp <;> omega) _ | refine Below.drew ?_)
theorem Alone_5 (x : Int) (w : World) :
  Calls Tryz.prog 111 #[.agg #[.int .i64 5, .int .i64 x]] w fun e w' => e = .returned (.agg #[.int .i64 0, .int .i64 0, .int .i64 0, .int .i64 0, .int .i64 0, .int .i64 x]) ∧ Below w.heap.size w w' := by
 go_enter Tryz.func111, Tryz.ntmps111
 go_wp2
 refine bodyPost_ret (v := .agg #[.int .i64 0, .int .i64 0, .int .i64 0, .int .i64 0, .int .i64 0, .int .i64 x]) (by simp [results, Tryz.results111, go_sem]) rfl ⟨rfl, ?_⟩
 repeat' (first | exact Below.refl _ _ | refine Below.setCell ?_ (by simp <;> omega) _ | refine Below.alloc ?_ (by simp <;> omega) _ | refine Below.drew ?_)
theorem Alone_any (r : Nat) (x : Int) (w : World) (hr : r < 6) :
  Calls Tryz.prog 111 #[.agg #[.int .i64 r, .int .i64 x]] w fun e w' => e = .returned (.agg (ivs (one r x)).toArray) ∧ Below w.heap.size w w' := by
 match r, hr with
 |0, _ => exact Alone_0 x w
 |1, _ => exact Alone_1 x w
 |2, _ => exact Alone_2 x w
 |3, _ => exact Alone_3 x w
 |4, _ => exact Alone_4 x w
 |5, _ => exact Alone_5 x w
end Go.Proofs.K

namespace Go.Proofs.K
open Go.RowKit
variable {w wr : World} {G : Nat → Int}
def ytz (G A : Nat → Int) (k j : Nat) : Int := if j < k then (if G j < A j then A j else G j) else G j
def zer (_ : Nat) : Int := 0
def g1 (a : Nat → Int) (j : Nat) : Int := if zer j < a j then a j else zer j
def yac (a b : Nat → Int) (j : Nat) : Int := if g1 a j < b j then b j else g1 a j
structure Gr (w wr : World) (G : Nat → Int) : Prop where
 below : Below w.heap.size w wr
 size : w.heap.size + 2 ≤ wr.heap.size
 res : ∀ j, j < 6 → wr.cell? ⟨w.heap.size, j, none⟩ = some (.int .i64 0)
 cur : ∀ j, j < 6 → wr.cell? ⟨w.heap.size + 1, j, none⟩ = some (.int .i64 (G j))
 fres : ∀ j, wr.frozen? ⟨w.heap.size, j, none⟩ = false
 fcur : ∀ j, wr.frozen? ⟨w.heap.size + 1, j, none⟩ = false
theorem Gr.set (h : Gr w wr G) (k : Nat) (hk : k < 6) (x : Int) : Gr w (wr.setCell ⟨w.heap.size + 1, k, none⟩ (.int .i64 x)) (fun j => if j = k then x else G j) := by
 refine ⟨h.below.setCell (by simp) _, by rw [show (wr.setCell ⟨w.heap.size + 1, k, none⟩ (.int .i64 x)).heap.size = wr.heap.size by simp [World.setCell]]; exact h.size, ?_, ?_, ?_, ?_⟩
 ·intro j hj
  exact (World.cell?_setCell_other wr ⟨w.heap.size + 1, k, none⟩ ⟨w.heap.size, j, none⟩ _ (by simp)).trans (h.res j hj)
 ·intro j hj
  by_cases e : j = k
  ·subst e
   rw [if_pos rfl]
   exact World.cell?_setCell_same _ _ _ (h.cur j hj)
  ·rw [if_neg e]
   exact (World.cell?_setCell_other wr ⟨w.heap.size + 1, k, none⟩ ⟨w.heap.size + 1, j, none⟩ _ (by simp <;> omega)).trans (h.cur j hj)
 ·intro j; rw [World.frozen?_setCell]; exact h.fres j
 ·intro j; rw [World.frozen?_setCell]; exact h.fcur j
theorem Gr.more {w' : World} (h : Gr w wr G) (hb : Below wr.heap.size wr w') : Gr w w' G := by
 have hs := h.size
 refine ⟨h.below.trans (hb.mono (by omega)), by have := hb.size; omega, ?_, ?_, ?_, ?_⟩
 ·intro j hj; rw [hb.cell (by simp only; omega)]; exact h.res j hj
 ·intro j hj; rw [hb.cell (by simp only; omega)]; exact h.cur j hj
 ·intro j; rw [hb.frozen (by simp only; omega)]; exact h.fres j
 ·intro j; rw [hb.frozen (by simp only; omega)]; exact h.fcur j
theorem Gr.congr {G' : Nat → Int} (h : Gr w wr G) (e : ∀ j, j < 6 → G j = G' j) : Gr w wr G' :=
 ⟨h.below, h.size, h.res, fun j hj => by rw [← e j hj]; exact h.cur j hj, h.fres, h.fcur⟩
def idxM (x i : Value) : Sem Value := Instr.index 186 x i
theorem idxTime (x i : Value) : Instr.index 186 x i = idxM x i := rfl
theorem ync (w : World) (a : Nat → Int) (k : Nat) (hk : k < 6) : (idxM (.agg #[.int .i64 (a 0), .int .i64 (a 1), .int .i64 (a 2), .int .i64 (a 3), .int .i64 (a 4), .int .i64 (a 5)]) (.int .i64 k)).run Tryz.prog w = .ok (.int .i64 (a k)) w := by
 obtain ⟨i0, hi, hz0, hz1, hz2⟩ := info_parts info_int
 have hagg : (isAgg 3).run Tryz.prog w = .ok false w := by simp [isAgg, run_underlying Tryz.underlying3]
 match k, hk with
 |0, _ | 1, _ | 2, _ | 3, _ | 4, _ | 5, _ => simp [idxM, Instr.index, asIntOf, run_underlying Tryz.underlying186, sizeOf, typeInfo, hi, hz1, part]
theorem yvj (w : World) (a : Nat → Int) : (idxM (.agg #[.int .i64 (a 0), .int .i64 (a 1), .int .i64 (a 2), .int .i64 (a 3), .int .i64 (a 4), .int .i64 (a 5)]) (.int .i64 0)).run Tryz.prog w = .ok (.int .i64 (a 0)) w := ync w a 0 (by omega)
theorem yvk (w : World) (a : Nat → Int) : (idxM (.agg #[.int .i64 (a 0), .int .i64 (a 1), .int .i64 (a 2), .int .i64 (a 3), .int .i64 (a 4), .int .i64 (a 5)]) (.int .i64 1)).run Tryz.prog w = .ok (.int .i64 (a 1)) w := ync w a 1 (by omega)
theorem yvl (w : World) (a : Nat → Int) : (idxM (.agg #[.int .i64 (a 0), .int .i64 (a 1), .int .i64 (a 2), .int .i64 (a 3), .int .i64 (a 4), .int .i64 (a 5)]) (.int .i64 2)).run Tryz.prog w = .ok (.int .i64 (a 2)) w := ync w a 2 (by omega)
theorem yvm (w : World) (a : Nat → Int) : (idxM (.agg #[.int .i64 (a 0), .int .i64 (a 1), .int .i64 (a 2), .int .i64 (a 3), .int .i64 (a 4), .int .i64 (a 5)]) (.int .i64 3)).run Tryz.prog w = .ok (.int .i64 (a 3)) w := ync w a 3 (by omega)
theorem yvn (w : World) (a : Nat → Int) : (idxM (.agg #[.int .i64 (a 0), .int .i64 (a 1), .int .i64 (a 2), .int .i64 (a 3), .int .i64 (a 4), .int .i64 (a 5)]) (.int .i64 4)).run Tryz.prog w = .ok (.int .i64 (a 4)) w := ync w a 4 (by omega)
theorem yvo (w : World) (a : Nat → Int) : (idxM (.agg #[.int .i64 (a 0), .int .i64 (a 1), .int .i64 (a 2), .int .i64 (a 3), .int .i64 (a 4), .int .i64 (a 5)]) (.int .i64 5)).run Tryz.prog w = .ok (.int .i64 (a 5)) w := ync w a 5 (by omega)
attribute [local go_sem ↓] idxTime
attribute [local go_sem] yvj yvk yvl yvm yvn yvo
theorem Gr.start (w : World) : Gr w ((w.alloc (.cells #[.int .i64 0, .int .i64 0, .int .i64 0, .int .i64 0, .int .i64 0, .int .i64 0] 186)).alloc (.cells #[.int .i64 0, .int .i64 0, .int .i64 0, .int .i64 0, .int .i64 0, .int .i64 0] 186)) zer := by
 have M1 := ycj.made' w #[.int .i64 0, .int .i64 0, .int .i64 0, .int .i64 0, .int .i64 0, .int .i64 0] 186 (n := 6) rfl
 have c1 : ∀ j, j < 6 → (w.alloc (.cells #[.int .i64 0, .int .i64 0, .int .i64 0, .int .i64 0, .int .i64 0, .int .i64 0] 186)).cell? ⟨w.heap.size, j, none⟩ = some (.int .i64 0) := by
  intro j hj
  simp only [World.cell?, heap_alloc_new]
  match j, hj with
  |0, _ | 1, _ | 2, _ | 3, _ | 4, _ | 5, _ => rfl
 generalize hW : w.alloc (.cells #[.int .i64 0, .int .i64 0, .int .i64 0, .int .i64 0, .int .i64 0, .int .i64 0] 186) = W at *
 have hs : W.heap.size = w.heap.size + 1 := by rw [← hW]; simp
 have M2 := ycj.made' W #[.int .i64 0, .int .i64 0, .int .i64 0, .int .i64 0, .int .i64 0, .int .i64 0] 186 (n := 6) rfl
 refine ⟨M1.below.trans (M2.below.mono (by omega)), by have := M2.lt; omega, ?_, ?_, ?_, ?_⟩
 ·intro j hj; rw [M2.below.cell (by simp only; omega)]; exact c1 j hj
 ·intro j hj
  rw [← hs]
  simp only [World.cell?, heap_alloc_new]
  match j, hj with
  |0, _ | 1, _ | 2, _ | 3, _ | 4, _ | 5, _ => rfl
 ·intro j; rw [M2.below.frozen (by simp only; omega)]; exact M1.fz j
 ·intro j; rw [← hs]; exact M2.fz j
def gN (T : Nat → Nat → Int) : Nat → Nat → Int
 |0, _ => 0
 |k + 1, j => if gN T k j < T k j then T k j else gN T k j
theorem Gr.step {w wi : World} {F t : Nat → Int} {i : Nat} (h : Gr w wi (ytz F t i)) (hi : i < 6) : wi.cell? ⟨w.heap.size + 1, i, none⟩ = some (.int .i64 (F i)) ∧ Gr w (wi.setCell ⟨w.heap.size + 1, i, none⟩ (.int .i64 (if F i < t i then t i else F i))) (ytz F t (i + 1)) := by
 refine ⟨(h.cur i hi).trans (by simp [ytz]), (h.set i hi _).congr fun j _ => ?_⟩
 unfold ytz
 by_cases e : j = i
 ·subst e; simp
 ·rw [if_neg e]
  by_cases q : j < i
  ·rw [if_pos q]
   exact (if_pos (by omega)).symm
  ·rw [if_neg q]
   exact (if_neg (by omega)).symm
theorem ymi (n : Nat) (hn : n ≤ 3) (g c : Nat) (T : Nat → Nat → Int) (w : World) (hg : g < w.heap.size) (ha : ∀ k j, k < n → j < 6 → w.cell? ⟨g, 6 * k + j, none⟩ = some (.int .i64 (T k j))) :
  Calls Tryz.prog 128 #[.slice (some ⟨g, 0, none⟩) n c] w fun e w' => e = .returned (.agg #[.int .i64 (gN T n 0), .int .i64 (gN T n 1), .int .i64 (gN T n 2), .int .i64 (gN T n 3), .int .i64 (gN T n 4), .int .i64 (gN T n 5)]) ∧ Below w.heap.size w w' := by
 have start : Hid (Gr w _ (gN T 0)) := Gr.start w
 have HA := yab ha
 clear ha
 go_enter Tryz.func128, Tryz.ntmps128
 go_wp2
 go_loopw [10] (fun i wr => ∃ k : Nat, k ≤ n ∧ i = .int .i64 k ∧ Hid (Gr w wr (gN T k))) (fun i _ => n - (intOf i).toNat)
 case atStart => exact ⟨0, by omega, rfl, start⟩
 case round =>
  obtain ⟨k, hk, rfl, hG⟩ := hrel
  have hsz := hG.out.size
  by_cases hkn : k < n
  ·have q : ∀ j, j < 6 → wr.cell? ⟨g, 6 * k + j, none⟩ = some (.int .i64 (T k j)) := fun j hj => (hG.out.below.cell (p := ⟨g, 6 * k + j, none⟩) hg).trans (HA.out k j hkn hj)
   have q0 := q 0 (by omega)
   have q1 := q 1 (by omega)
   have q2 := q 2 (by omega)
   have q3 := q 3 (by omega)
   have q4 := q 4 (by omega)
   have q5 := q 5 (by omega)
   have NX : Hid (∀ wi, Gr w wi (ytz (gN T k) (T k) 6) → Gr w wi (gN T (k + 1))) := fun wi h => h.congr fun j hj => by simp [ytz, hj, gN]
   have d1 : decide ((k : Int) < (n : Int)) = true := by simp; omega
   have hn9 : (n : Int) ≤ 3 := by omega
   generalize gN T k = F at *
   generalize T k = t at *
   clear q HA start
   rcases (by omega : k = 0 ∨ k = 1 ∨ k = 2) with rfl | rfl | rfl
   all_goals
    simp only [Nat.reduceMul, Nat.reduceAdd, Nat.zero_add, Nat.mul_zero, Nat.add_zero] at q0 q1 q2 q3 q4 q5
    go_wp2
    clear q0 q1 q2 q3 q4 q5
    have hG2 : Hid (Gr w _ (ytz F t 0)) := (hG.out.more ((Below.refl _ _).alloc (Nat.le_refl _) (.cells #[.int .i64 (t 0), .int .i64 (t 1), .int .i64 (t 2), .int .i64 (t 3), .int .i64 (t 4), .int .i64 (t 5)] 186))).congr (fun j _ => by simp [ytz])
    go_loopw [15] (fun i wi => ∃ k : Nat, k ≤ 6 ∧ i = .int .i64 k ∧ Hid (Gr w wi (ytz F t k))) (fun i _ => 6 - (intOf i).toNat)
    case atStart => exact ⟨0, by omega, rfl, hG2⟩
    case round =>
     obtain ⟨i, hi, rfl, hI⟩ := hrel
     clear hG hG2 hsz
     by_cases hi6 : i < 6
     ·obtain ⟨c1, hN⟩ := hI.out.step hi6
      have f1 := hI.out.fcur i
      have N := yab hN
      clear hN
      rcases (by omega : i = 0 ∨ i = 1 ∨ i = 2 ∨ i = 3 ∨ i = 4 ∨ i = 5) with rfl | rfl | rfl | rfl | rfl | rfl
      all_goals
       go_wp2
       go_roundw
       case rel => exact ⟨_, by omega, by go_num, N⟩
       case measure => simp [intOf]
     ·obtain rfl : i = 6 := by omega
      have N := yab (NX.out _ hI.out)
      go_wp2
      go_roundw
      case rel => exact ⟨_, by omega, by go_num, N⟩
      case measure => simp [intOf]; omega
  ·obtain rfl : k = n := by omega
   have d1 : decide ((k : Int) < (k : Int)) = false := by simp
   have r0 := hG.out.res 0 (by omega)
   have c0 := hG.out.cur 0 (by omega)
   have f0 := hG.out.fres 0
   have r1 := hG.out.res 1 (by omega)
   have c1 := hG.out.cur 1 (by omega)
   have f1 := hG.out.fres 1
   have r2 := hG.out.res 2 (by omega)
   have c2 := hG.out.cur 2 (by omega)
   have f2 := hG.out.fres 2
   have r3 := hG.out.res 3 (by omega)
   have c3 := hG.out.cur 3 (by omega)
   have f3 := hG.out.fres 3
   have r4 := hG.out.res 4 (by omega)
   have c4 := hG.out.cur 4 (by omega)
   have f4 := hG.out.fres 4
   have r5 := hG.out.res 5 (by omega)
   have c5 := hG.out.cur 5 (by omega)
   have f5 := hG.out.fres 5
   go_wp2
   refine bodyPost_ret (v := .agg #[.int .i64 (gN T k 0), .int .i64 (gN T k 1), .int .i64 (gN T k 2), .int .i64 (gN T k 3), .int .i64 (gN T k 4), .int .i64 (gN T k 5)]) (by simp [results, Tryz.results128, go_sem, r0, r1, r2, r3, r4, r5]) rfl ⟨rfl, ?_⟩
   repeat' (first | exact hG.out.below | refine Below.setCell ?_ (by simp <;> omega) _)
theorem ycn (g c : Nat) (a b : Nat → Int) (w : World) (hg : g < w.heap.size) (ha : ∀ j, j < 6 → w.cell? ⟨g, j, none⟩ = some (.int .i64 (a j))) (hb : ∀ j, j < 6 → w.cell? ⟨g, 6 + j, none⟩ = some (.int .i64 (b j))) :
  Calls Tryz.prog 128 #[.slice (some ⟨g, 0, none⟩) 2 c] w fun e w' => e = .returned (.agg #[.int .i64 (yac a b 0), .int .i64 (yac a b 1), .int .i64 (yac a b 2), .int .i64 (yac a b 3), .int .i64 (yac a b 4), .int .i64 (yac a b 5)]) ∧ Below w.heap.size w w' := by
 refine (ymi 2 (by omega) g c (fun k => if k = 0 then a else b) w hg (fun k j hk hj => ?_)).mono fun e w' h => h
 rcases (by omega : k = 0 ∨ k = 1) with rfl | rfl
 ·simpa using ha j hj
 ·exact hb j hj
end Go.Proofs.K

namespace Go.Proofs.K
open Go.RowKit
structure Rec where
 text : ByteArray
 br : Int
 bn : Int
 ch : Nat → Int
 kn : Nat → Int
def ybb (R : Rec) : Value := .agg #[.string R.text, .int .i64 R.br, .int .i64 R.bn, .int .i64 (R.ch 0), .int .i64 (R.ch 1), .int .i64 (R.ch 2), .int .i64 (R.ch 3), .int .i64 (R.ch 4), .int .i64 (R.ch 5)]
def yad (R : Rec) : Value := .agg #[.string R.text, .int .i64 R.br, .int .i64 R.bn, .int .i64 (R.ch 0), .int .i64 (R.ch 1), .int .i64 (R.ch 2), .int .i64 (R.ch 3), .int .i64 (R.ch 4), .int .i64 (R.ch 5), .int .i64 (R.kn 0), .int .i64 (R.kn 1), .int .i64 (R.kn 2), .int .i64 (R.kn 3), .int .i64 (R.kn 4), .int .i64 (R.kn 5)]
def ygt (t : Nat → Int) : Value := .agg #[.int .i64 (t 0), .int .i64 (t 1), .int .i64 (t 2), .int .i64 (t 3), .int .i64 (t 4), .int .i64 (t 5)]
theorem yaw (t : ByteArray) (x y a0 a1 a2 a3 a4 a5 : Int) (w : World) :
  Calls Tryz.prog 113 #[.agg #[.string t, .int .i64 x, .int .i64 y, .int .i64 a0, .int .i64 a1, .int .i64 a2, .int .i64 a3, .int .i64 a4, .int .i64 a5]] w fun e w' => e = .returned (.bool (decide (0 < y))) ∧ Below w.heap.size w w' := by
 go_enter Tryz.func113, Tryz.ntmps113
 go_wp2
 go_ret
 exact ⟨rfl, (Below.refl _ _).alloc (Nat.le_refl _) _⟩
structure ybs (w : World) (rb s : Nat) (cm : Nat → Int) (mb : Nat) : Prop where
 blk : w.heap[rb]? = some (.cells #[.int .i64 s, .int .i64 (cm 0), .int .i64 (cm 1), .int .i64 (cm 2), .int .i64 (cm 3), .int .i64 (cm 4), .int .i64 (cm 5), .map (some mb)] 188 (0, 0))
 hs : s < 6
theorem ybs.c0 {w rb s cm mb} (h : ybs w rb s cm mb) : w.cell? ⟨rb, 0, none⟩ = some (.int .i64 s) := by simp [World.cell?, h.blk]
theorem ybs.c7 {w rb s cm mb} (h : ybs w rb s cm mb) : w.cell? ⟨rb, 7, none⟩ = some (.map (some mb)) := by simp [World.cell?, h.blk]
theorem ybs.ct {w rb s cm mb} (h : ybs w rb s cm mb) (j : Nat) (hj : j < 6) : w.cell? ⟨rb, 1 + j, none⟩ = some (.int .i64 (cm j)) := by
 simp only [World.cell?, h.blk]
 match j, hj with
 |0, _ | 1, _ | 2, _ | 3, _ | 4, _ | 5, _ => rfl
theorem ybs.fz {w rb s cm mb} (h : ybs w rb s cm mb) (j : Nat) : w.frozen? ⟨rb, j, none⟩ = false := by simp [World.frozen?, h.blk]
theorem ybs.lt {w rb s cm mb} (h : ybs w rb s cm mb) : rb < w.heap.size := (Array.getElem?_eq_some_iff.1 h.blk).1
theorem ybs.keep {w w' : World} {rb s : Nat} {cm : Nat → Int} {mb : Nat} (h : ybs w rb s cm mb) (hk : w'.heap[rb]? = w.heap[rb]?) : ybs w' rb s cm mb := ⟨by rw [hk]; exact h.blk, h.hs⟩
theorem ygx (rb s : Nat) (cm : Nat → Int) (mb : Nat) (w : World) (h : ybs w rb s cm mb) :
  Calls Tryz.prog 168 #[.pointer (some ⟨rb, 0, none⟩)] w fun e w' => e = .returned (.int .i64 (cm s)) ∧ ∃ nq, w' = w.drewN nq := by
 have c0 := h.c0
 have cs := h.ct s h.hs
 have hs := h.hs
 have hs1 : (0 : Int) ≤ (s : Int) := by omega
 have hs2 : (s : Int) < 6 := by omega
 clear h
 generalize cm s = x at *
 go_enter Tryz.func168, Tryz.ntmps168
 go_wp2
 go_quiet (fail)
 go_wp2
 go_ret
 exact ⟨rfl, _, rfl⟩
theorem yix (rb s : Nat) (cm : Nat → Int) (mb : Nat) (w : World) (h : ybs w rb s cm mb) :
  Calls Tryz.prog 105 #[.pointer (some ⟨rb, 0, none⟩)] w fun e w' => e = .returned (.bool (decide (1000000000 ≤ cm s))) ∧ ∃ nq, w' = w.drewN nq := by
 have C := yab (ygx rb s cm mb w h)
 clear h
 go_enter Tryz.func105, Tryz.ntmps105
 go_wp2_with (go_at_call 168; refine C.out.mono ?_; rintro e w' ⟨rfl, nq, rfl⟩)
 go_ret
 exact ⟨rfl, _, rfl⟩
def eqT (t u : Nat → Int) : Bool := (t 0 == u 0) && ((t 1 == u 1) && ((t 2 == u 2) && ((t 3 == u 3) && ((t 4 == u 4) && (t 5 == u 5)))))
theorem cells_int : Tryz.prog.cellsOf 3 = 1 := by kernel_rfl
theorem run_eq_time (t u : Nat → Int) (w : World) : (Op.equalIn 10000 186 (.agg #[.int .i64 (t 0), .int .i64 (t 1), .int .i64 (t 2), .int .i64 (t 3), .int .i64 (t 4), .int .i64 (t 5)]) (.agg #[.int .i64 (u 0), .int .i64 (u 1), .int .i64 (u 2), .int .i64 (u 3), .int .i64 (u 4), .int .i64 (u 5)])).run Tryz.prog w = .ok (eqT t u) w := by
 obtain ⟨i0, hi, hz0, hz1, hz2⟩ := info_parts info_int
 have hagg : ∀ w, (isAgg 3).run Tryz.prog w = .ok false w := fun w => by simp [isAgg, run_underlying Tryz.underlying3]
 have hr : List.range 6 = [0, 1, 2, 3, 4, 5] := rfl
 have heq : ∀ (x y : Int) (w : World), (Op.equalIn 9999 3 (.int .i64 x) (.int .i64 y)).run Tryz.prog w = .ok (x == y) w := fun x y w => run_equalIn_int w 9998 3 .i64 .i64 x y Tryz.underlying3
 rw [show (10000 : Nat) = 9999 + 1 from rfl, run_equalIn_array w 9999 _ _ Tryz.underlying186 hi, hr, cells_int]
 have hp : ∀ (t : Nat → Int) (k : Nat) (w : World), k < 6 → (part 3 #[.int .i64 (t 0), .int .i64 (t 1), .int .i64 (t 2), .int .i64 (t 3), .int .i64 (t 4), .int .i64 (t 5)] (k * 1)).run Tryz.prog w = .ok (.int .i64 (t k)) w := by
  intro t k w hk
  match k, hk with
  |0, _ | 1, _ | 2, _ | 3, _ | 4, _ | 5, _ => simp [part, hagg]
 have step : ∀ (is : List Nat) (k : Nat) (w : World), k < 6 → (Op.eqItems 9999 3 1 #[.int .i64 (t 0), .int .i64 (t 1), .int .i64 (t 2), .int .i64 (t 3), .int .i64 (t 4), .int .i64 (t 5)] #[.int .i64 (u 0), .int .i64 (u 1), .int .i64 (u 2), .int .i64 (u 3), .int .i64 (u 4), .int .i64 (u 5)] (k :: is)).run Tryz.prog w =
   if (t k == u k) = true then (Op.eqItems 9999 3 1 #[.int .i64 (t 0), .int .i64 (t 1), .int .i64 (t 2), .int .i64 (t 3), .int .i64 (t 4), .int .i64 (t 5)] #[.int .i64 (u 0), .int .i64 (u 1), .int .i64 (u 2), .int .i64 (u 3), .int .i64 (u 4), .int .i64 (u 5)] is).run Tryz.prog w else .ok false w := by
  intro is k w hk
  simp only [Op.eqItems, Sem.run_bind, hp t k w hk, hp u k w hk, heq, Result.andThen_ok]
  cases t k == u k <;> simp
 rw [step _ 0 w (by omega), step _ 1 w (by omega), step _ 2 w (by omega), step _ 3 w (by omega), step _ 4 w (by omega), step _ 5 w (by omega)]
 unfold eqT
 cases t 0 == u 0 <;> cases t 1 == u 1 <;> cases t 2 == u 2 <;> cases t 3 == u 3 <;> cases t 4 == u 4 <;> cases t 5 == u 5 <;> rfl
def eqM (x y : Value) : Sem Value := binOp .eql 186 x y
theorem eqTime (x y : Value) : binOp .eql 186 x y = eqM x y := rfl
theorem yvi (t u : Nat → Int) (w : World) : (eqM (.agg #[.int .i64 (t 0), .int .i64 (t 1), .int .i64 (t 2), .int .i64 (t 3), .int .i64 (t 4), .int .i64 (t 5)]) (.agg #[.int .i64 (u 0), .int .i64 (u 1), .int .i64 (u 2), .int .i64 (u 3), .int .i64 (u 4), .int .i64 (u 5)])).run Tryz.prog w = .ok (.bool (eqT t u)) w := by
 unfold eqM
 rw [run_eql_struct, run_eq_time]
 rfl
attribute [local go_sem ↓] eqTime
attribute [local go_sem] yvi
theorem isJust_any (t u : Nat → Int) (w : World) :
  Calls Tryz.prog 199 #[.agg #[.int .i64 (t 0), .int .i64 (t 1), .int .i64 (t 2), .int .i64 (t 3), .int .i64 (t 4), .int .i64 (t 5)], .agg #[.int .i64 (u 0), .int .i64 (u 1), .int .i64 (u 2), .int .i64 (u 3), .int .i64 (u 4), .int .i64 (u 5)]] w fun e w' => e = .returned (.bool (eqT t u)) ∧ Below w.heap.size w w' := by
 go_enter Tryz.func199, Tryz.ntmps199
 go_wp2
 go_ret
 exact ⟨rfl, ((Below.refl _ _).alloc (Nat.le_refl _) _).alloc (by simp) _⟩
end Go.Proofs.K

namespace Go.Proofs.K
open Go.RowKit
attribute [local go_sem ↓] idxTime
attribute [local go_sem] yvj yvk yvl yvm yvn yvo
theorem ywa (g c : Nat) (a : Nat → Int) (w : World) (hg : g < w.heap.size) (ha : ∀ j, j < 6 → w.cell? ⟨g, j, none⟩ = some (.int .i64 (a j))) :
  Calls Tryz.prog 128 #[.slice (some ⟨g, 0, none⟩) 1 c] w fun e w' => e = .returned (.agg #[.int .i64 (g1 a 0), .int .i64 (g1 a 1), .int .i64 (g1 a 2), .int .i64 (g1 a 3), .int .i64 (g1 a 4), .int .i64 (g1 a 5)]) ∧ Below w.heap.size w w' := by
 refine (ymi 1 (by omega) g c (fun _ => a) w hg (fun k j hk hj => ?_)).mono fun e w' h => h
 obtain rfl : k = 0 := by omega
 simpa using ha j hj
end Go.Proofs.K

namespace Go.Proofs.K
open Go.RowKit
attribute [local go_sem ↓] Go.wp_at_zero Go.wp_at_succ
end Go.Proofs.K

namespace Go.Proofs.K
open Go.RowKit
attribute [local go_sem ↓] Go.wp_at_zero Go.wp_at_succ
theorem yne : (Tryz.prog.info? 166).map (·.size) = some 3 := by kernel_rfl
theorem yvt (p v : Value) : Instr.storeAt 166 p v = stM 166 p v := rfl
theorem yih (w : World) (b : Nat) (x0 x1 x2 : Int) (ht : w.there b 0 3) :
  (stM 166 (.pointer (some ⟨b, 0, none⟩)) (.agg #[.int .i64 x0, .int .i64 x1, .int .i64 x2])).run Tryz.prog w = .ok () (w.setCells b 0 [.int .i64 x0, .int .i64 x1, .int .i64 x2]) :=
 run_storeAt_mid w b 0 _ #[.int .i64 x0, .int .i64 x1, .int .i64 x2] ht yne (by simp [Value.oneCell'])
attribute [local go_sem ↓] yvt
attribute [local go_sem] yih
theorem yhb {w : World} {k n : Nat} {W : World} (h : ycj w k n W) (m : Nat) : ycj w k n (W.drewN m) := ⟨⟨h.below.os, h.below.tape, h.below.output, h.below.size, h.below.block⟩, h.ge, h.lt, h.some, h.fz⟩
end Go.Proofs.K

namespace Go.Proofs.K
open Go.RowKit
attribute [local go_sem ↓] idxTime
attribute [local go_sem] yvj yvk yvl yvm yvn yvo
def g3 (a b d : Nat → Int) (j : Nat) : Int := if yac a b j < d j then d j else yac a b j
theorem yqy (g c : Nat) (a b d : Nat → Int) (w : World) (hg : g < w.heap.size) (ha : ∀ j, j < 6 → w.cell? ⟨g, j, none⟩ = some (.int .i64 (a j))) (hb : ∀ j, j < 6 → w.cell? ⟨g, 6 + j, none⟩ = some (.int .i64 (b j))) (hd : ∀ j, j < 6 → w.cell? ⟨g, 12 + j, none⟩ = some (.int .i64 (d j))) :
  Calls Tryz.prog 128 #[.slice (some ⟨g, 0, none⟩) 3 c] w fun e w' => e = .returned (.agg #[.int .i64 (g3 a b d 0), .int .i64 (g3 a b d 1), .int .i64 (g3 a b d 2), .int .i64 (g3 a b d 3), .int .i64 (g3 a b d 4), .int .i64 (g3 a b d 5)]) ∧ Below w.heap.size w w' := by
 refine (ymi 3 (by omega) g c (fun k => if k = 0 then a else if k = 1 then b else d) w hg (fun k j hk hj => ?_)).mono fun e w' h => h
 rcases (by omega : k = 0 ∨ k = 1 ∨ k = 2) with rfl | rfl | rfl
 ·simpa using ha j hj
 ·exact hb j hj
 ·exact hd j hj
end Go.Proofs.K
