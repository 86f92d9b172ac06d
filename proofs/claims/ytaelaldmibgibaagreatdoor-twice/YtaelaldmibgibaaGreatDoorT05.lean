/- The document's answer: spent, fresh, equal, files. The document's answer: a list with one thing put in; a new row, new paths. The document's answer: place (of a path, which is spoken of from now on). What a net is, without memory: for each replica its count and its files, by rising paths; what the calls make of it. Times of the program in memory: loads and stores of whole times; Alone, Greatest. Times of the program: Greatest, of two times. The program's replica in memory; count, countIsFull; a record's small functions. Times of the program: Greatest, of one time. The document's answer: gone, Remove. The document's answer: kept, Look. Greatest of three times. -/
import Derived.Test.YtaelaldmibgibaaGreatDoorRows
import Derived.WalkKit
import Derived.WalkSpells
import Derived.WalkLawsBesides
import Derived.Deep.AppendLies
import Derived.Deep.MidRow
import Derived.Deep.RegionWith
import Derived.Deep.RegionHeld3
import Derived.Deep.DrawnRows
import Derived.BigQuiet
import Derived.Deep.QuietTactic
import Derived.Test.YtaelaldmibgibaaGreatDoorT03
import Derived.Test.YtaelaldmibgibaaGreatDoorT04
import Derived.ChangeKeysEq
import Derived.Deep.DeepMust

set_option linter.unusedVariables false
set_option linter.unusedSimpArgs false
set_option linter.unusedSectionVars false
set_option maxHeartbeats 4000000
set_option maxRecDepth 100000

namespace Go.Proofs.YtaelaldmibgibaaGreatDoor
open Go.RowKit
attribute [local go_sem ↓] Go.wp_at_zero Go.wp_at_succ
def stM (t : TypeId) (p v : Value) : Sem Unit := Instr.storeAt t p v
theorem stSpot (p v : Value) : Instr.storeAt 117 p v = stM 117 p v := rfl
theorem run_stSpot (w : World) (b : Nat) (x0 : Bool) (x1 : ByteArray) (x2 x3 : Int) (a4 a5 : Option Addr) (n4 c4 n5 c5 : Nat) (ht : w.there b 0 6) :
  (stM 117 (.pointer (some ⟨b, 0, none⟩)) (.agg #[.bool x0, .string x1, .int .i64 x2, .int .i64 x3, .slice a4 n4 c4, .slice a5 n5 c5])).run Tryz.prog w =
   .ok () (w.setCells b 0 [.bool x0, .string x1, .int .i64 x2, .int .i64 x3, .slice a4 n4 c4, .slice a5 n5 c5]) :=
 run_storeAt_mid w b 0 _ #[.bool x0, .string x1, .int .i64 x2, .int .i64 x3, .slice a4 n4 c4, .slice a5 n5 c5] ht size_Spot (by simp [Value.oneCell'])
attribute [local go_sem ↓] stSpot
attribute [local go_sem] run_stSpot
end Go.Proofs.YtaelaldmibgibaaGreatDoor

namespace Go.Proofs.YtaelaldmibgibaaGreatDoor
open Go.RowKit
def slt (a b : ByteArray) : Bool := Op.bytesLess a.toList b.toList
def seq (a b : ByteArray) : Bool := a.toList == b.toList
theorem yjc (a b : ByteArray) : seq a b = true ↔ a = b := by
 unfold seq
 rw [beq_iff_eq, ByteArray.toList_eq, ByteArray.toList_eq]
 constructor
 ·intro h
  cases a; cases b
  simp only [ByteArray.mk.injEq]
  exact Array.toList_inj.1 h
 ·rintro rfl; rfl
theorem yer (x : List UInt8) : Op.bytesLess x x = false := by
 induction x with
 |nil => rfl
 |cons a x ih => simp [Op.bytesLess, ih]
theorem yht (x y z : List UInt8) (h : Op.bytesLess x y = true) (h' : Op.bytesLess y z = true) : Op.bytesLess x z = true := by
 induction x generalizing y z with
 |nil =>
  cases z with
  |nil => cases y <;> simp [Op.bytesLess] at h'
  |cons c z => rfl
 |cons a x ih =>
  cases y with
  |nil => simp [Op.bytesLess] at h
  |cons b y =>
   cases z with
   |nil => simp [Op.bytesLess] at h'
   |cons c z =>
    simp only [Op.bytesLess, Bool.or_eq_true, decide_eq_true_eq, Bool.and_eq_true, beq_iff_eq] at *
    rcases h with h | ⟨rfl, h⟩
    ·rcases h' with h' | ⟨rfl, h'⟩
     ·exact .inl (UInt8.lt_trans h h')
     ·exact .inl h
    ·rcases h' with h' | ⟨rfl, h'⟩
     ·exact .inl h'
     ·exact .inr ⟨rfl, ih y z h h'⟩
theorem yrw (x y : List UInt8) (h : Op.bytesLess x y = false) (h' : Op.bytesLess y x = false) : x = y := by
 induction x generalizing y with
 |nil =>
  cases y with
  |nil => rfl
  |cons b y => simp [Op.bytesLess] at h
 |cons a x ih =>
  cases y with
  |nil => simp [Op.bytesLess] at h'
  |cons b y =>
   simp only [Op.bytesLess, Bool.or_eq_false_iff, decide_eq_false_iff_not, Bool.and_eq_false_iff, beq_eq_false_iff_ne] at *
   have e : a = b := by
    apply UInt8.toNat_inj.1
    have h1 := h.1
    have h2 := h'.1
    rw [UInt8.lt_iff_toNat_lt] at h1 h2
    omega
   subst e
   rw [ih y (by simpa using h.2) (by simpa using h'.2)]
theorem ybi (a : ByteArray) : slt a a = false := yer _
theorem ygc {a b c : ByteArray} (h : slt a b = true) (h' : slt b c = true) : slt a c = true := yht _ _ _ h h'
theorem yhp {a b : ByteArray} (h : slt a b = true) : slt b a = false := by
 cases e : slt b a with
 |false => rfl
 |true => rw [← ybi a]; exact (ygc h e).symm
theorem yrk {a b : ByteArray} (h : slt a b = false) (h' : slt b a = false) : a = b := by
 apply (yjc a b).1
 unfold seq
 rw [beq_iff_eq]
 exact yrw _ _ h h'
theorem yio {a b : ByteArray} (h : slt a b = true) : a ≠ b := fun e => by rw [e, ybi] at h; cases h
abbrev Files := List (ByteArray × ByteArray)
theorem yoy {α : Type} (f : α → Bool) (l : List α) (h : ∀ x ∈ l, f x = true) : l.filter f = l := List.filter_eq_self.2 h
theorem yis {α : Type} (f : α → Bool) (l : List α) (h : ∀ x ∈ l, f x = false) : l.filter f = [] := List.filter_eq_nil_iff.2 (fun x hx => by rw [h x hx]; simp)
structure Abs where
 n : Nat
 F : Nat → Files
 c : Nat → Int
theorem yts : (Tryz.prog.info? 186).map (·.size) = some 6 := by kernel_rfl
def rngv (w : World) (b o n : Nat) : List Value := (List.range n).map (fun j => (w.cell? ⟨b, o + j, none⟩).getD (.bool false))
theorem rngv_range {w : World} {b o n : Nat} (h : ∀ j, j < n → (w.cell? ⟨b, o + j, none⟩).isSome = true) : w.rangeAt b o (rngv w b o n) := by
 intro j v hj
 unfold rngv at hj
 rw [List.getElem?_map] at hj
 by_cases hjn : j < n
 ·rw [List.getElem?_range hjn] at hj
  simp at hj
  have := h j hjn
  cases hc : w.cell? ⟨b, o + j, none⟩ with
  |none => rw [hc] at this; cases this
  |some u => rw [hc] at hj; simp at hj; rw [hj]
 ·rw [List.getElem?_eq_none (by simp; omega)] at hj
  cases hj
theorem ywd (w : World) (b o n : Nat) : (rngv w b o n).length = n := by simp [rngv]
def ldM (t : TypeId) (p : Value) : Sem Value := Instr.loadAt t p
theorem ldTime (p : Value) : Instr.loadAt 186 p = ldM 186 p := rfl
theorem ynk (p v : Value) : Instr.storeAt 186 p v = stM 186 p v := rfl
theorem run_ldTime (w : World) (b o : Nat) (ht : w.there b o 6) : (ldM 186 (.pointer (some ⟨b, o, none⟩))).run Tryz.prog w = .ok (.agg (rngv w b o 6).toArray) w :=
 run_loadAt_mid w b o _ (rngv w b o 6) _ (rngv_range (fun j hj => (ht j hj).1)) Tryz.underlying186 rfl (by rw [ywd]; exact yts)
def one (r : Nat) (x : Int) : List Int := (List.replicate 6 0).set r x
theorem Alone_0 (x : Int) (w : World) :
  Calls Tryz.prog 111 #[.agg #[.int .i64 0, .int .i64 x]] w fun e w' => e = .returned (.agg #[.int .i64 x, .int .i64 0, .int .i64 0, .int .i64 0, .int .i64 0, .int .i64 0]) ∧ Below w.heap.size w w' := by
 go_enter Tryz.func111, Tryz.ntmps111
 go_wp2
 refine bodyPost_ret (v := .agg #[.int .i64 x, .int .i64 0, .int .i64 0, .int .i64 0, .int .i64 0, .int .i64 0]) (by simp [results, Tryz.results111, go_sem]) rfl ⟨rfl, ?_⟩
 repeat' (first | exact Below.refl _ _ | refine Below.setCell ?_ (by simp <;> omega) _ | refine Below.alloc ?_ (by simp <;> omega) _ | refine Below.drew ?_)
theorem Alone_1 (x : Int) (w : World) :
  Calls Tryz.prog 111 #[.agg #[.int .i64 1, .int .i64 x]] w fun e w' => e = .returned (.agg #[.int .i64 0, .int .i64 x, .int .i64 0, .int .i64 0, .int .i64 0, .int .i64 0]) ∧ Below w.heap.size w w' := by
 go_enter Tryz.func111, Tryz.ntmps111
 go_wp2
 refine bodyPost_ret (v := .agg #[.int .i64 0, .int .i64 x, .int .i64 0, .int .i64 0, .int .i64 0, .int .i64 0]) (by simp [results, Tryz.results111, go_sem]) rfl ⟨rfl, ?_⟩
 repeat' (first | exact Below.refl _ _ | refine Below.setCell ?_ (by simp <;> omega) _ | refine Below.alloc ?_ (by simp <;> omega) _ | refine Below.drew ?_)
theorem Alone_2 (x : Int) (w : World) :
  Calls Tryz.prog 111 #[.agg #[.int .i64 2, .int .i64 x]] w fun e w' => e = .returned (.agg #[.int .i64 0, .int .i64 0, .int .i64 x, .int .i64 0, .int .i64 0, .int .i64 0]) ∧ Below w.heap.size w w' := by
 go_enter Tryz.func111, Tryz.ntmps111
 go_wp2
 refine bodyPost_ret (v := .agg #[.int .i64 0, .int .i64 0, .int .i64 x, .int .i64 0, .int .i64 0, .int .i64 0]) (by simp [results, Tryz.results111, go_sem]) rfl ⟨rfl, ?_⟩
 repeat' (first | exact Below.refl _ _ | refine Below.setCell ?_ (by simp <;> omega) _ | refine Below.alloc ?_ (by simp <;> omega) _ | refine Below.drew ?_)
theorem Alone_3 (x : Int) (w : World) :
  Calls Tryz.prog 111 #[.agg #[.int .i64 3, .int .i64 x]] w fun e w' => e = .returned (.agg #[.int .i64 0, .int .i64 0, .int .i64 0, .int .i64 x, .int .i64 0, .int .i64 0]) ∧ Below w.heap.size w w' := by
 go_enter Tryz.func111, Tryz.ntmps111
 go_wp2
 refine bodyPost_ret (v := .agg #[.int .i64 0, .int .i64 0, .int .i64 0, .int .i64 x, .int .i64 0, .int .i64 0]) (by simp [results, Tryz.results111, go_sem]) rfl ⟨rfl, ?_⟩
 repeat' (first | exact Below.refl _ _ | refine Below.setCell ?_ (by simp <;> omega) _ | refine Below.alloc ?_ (by simp <;> omega) _ | refine Below.drew ?_)
theorem Alone_4 (x : Int) (w : World) :
  Calls Tryz.prog 111 #[.agg #[.int .i64 4, .int .i64 x]] w fun e w' => e = .returned (.agg #[.int .i64 0, .int .i64 0, .int .i64 0, .int .i64 0, .int .i64 x, .int .i64 0]) ∧ Below w.heap.size w w' := by
 go_enter Tryz.func111, Tryz.ntmps111
 go_wp2
 refine bodyPost_ret (v := .agg #[.int .i64 0, .int .i64 0, .int .i64 0, .int .i64 0, .int .i64 x, .int .i64 0]) (by simp [results, Tryz.results111, go_sem]) rfl ⟨rfl, ?_⟩
 repeat' (first | exact Below.refl _ _ | refine Below.setCell ?_ (by simp <;> omega) _ | refine Below.alloc ?_ (by simp <;> omega) _ | refine Below.drew ?_)
theorem Alone_5 (x : Int) (w : World) :
  Calls Tryz.prog 111 #[.agg #[.int .i64 5, .int .i64 x]] w fun e w' => e = .returned (.agg #[.int .i64 0, .int .i64 0, .int .i64 0, .int .i64 0, .int .i64 0, .int .i64 x]) ∧ Below w.heap.size w w' := by
 go_enter Tryz.func111, Tryz.ntmps111
 go_wp2
 refine bodyPost_ret (v := .agg #[.int .i64 0, .int .i64 0, .int .i64 0, .int .i64 0, .int .i64 0, .int .i64 x]) (by simp [results, Tryz.results111, go_sem]) rfl ⟨rfl, ?_⟩
 repeat' (first | exact Below.refl _ _ | refine Below.setCell ?_ (by simp <;> omega) _ | refine Below.alloc ?_ (by simp <;> omega) _ | refine Below.drew ?_)
theorem Alone_any (r : Nat) (x : Int) (w : World) (hr : r < 6) :
  Calls Tryz.prog 111 #[.agg #[.int .i64 r, .int .i64 x]] w fun e w' => e = .returned (.agg (ivs (one r x)).toArray) ∧ Below w.heap.size w w' := by
 match r, hr with
 |0, _ => exact Alone_0 x w
 |1, _ => exact Alone_1 x w
 |2, _ => exact Alone_2 x w
 |3, _ => exact Alone_3 x w
 |4, _ => exact Alone_4 x w
 |5, _ => exact Alone_5 x w
def yag (G A : Nat → Int) (k j : Nat) : Int := if j < k then (if G j < A j then A j else G j) else G j
def zer (_ : Nat) : Int := 0
def g1 (a : Nat → Int) (j : Nat) : Int := if zer j < a j then a j else zer j
def yab (a b : Nat → Int) (j : Nat) : Int := if g1 a j < b j then b j else g1 a j
structure Gr (w wr : World) (G : Nat → Int) : Prop where
 below : Below w.heap.size w wr
 size : w.heap.size + 2 ≤ wr.heap.size
 res : ∀ j, j < 6 → wr.cell? ⟨w.heap.size, j, none⟩ = some (.int .i64 0)
 cur : ∀ j, j < 6 → wr.cell? ⟨w.heap.size + 1, j, none⟩ = some (.int .i64 (G j))
 fres : ∀ j, wr.frozen? ⟨w.heap.size, j, none⟩ = false
 fcur : ∀ j, wr.frozen? ⟨w.heap.size + 1, j, none⟩ = false
theorem Gr.set {w wr : World} {G : Nat → Int} (h : Gr w wr G) (k : Nat) (hk : k < 6) (x : Int) : Gr w (wr.setCell ⟨w.heap.size + 1, k, none⟩ (.int .i64 x)) (fun j => if j = k then x else G j) := by
 refine ⟨h.below.setCell (by simp) _, by rw [show (wr.setCell ⟨w.heap.size + 1, k, none⟩ (.int .i64 x)).heap.size = wr.heap.size by simp [World.setCell]]; exact h.size, ?_, ?_, ?_, ?_⟩
 ·intro j hj
  exact (World.cell?_setCell_other wr ⟨w.heap.size + 1, k, none⟩ ⟨w.heap.size, j, none⟩ _ (by simp)).trans (h.res j hj)
 ·intro j hj
  by_cases e : j = k
  ·subst e
   rw [if_pos rfl]
   exact World.cell?_setCell_same _ _ _ (h.cur j hj)
  ·rw [if_neg e]
   exact (World.cell?_setCell_other wr ⟨w.heap.size + 1, k, none⟩ ⟨w.heap.size + 1, j, none⟩ _ (by simp <;> omega)).trans (h.cur j hj)
 ·intro j; rw [World.frozen?_setCell]; exact h.fres j
 ·intro j; rw [World.frozen?_setCell]; exact h.fcur j
theorem Gr.more {w wr w' : World} {G : Nat → Int} (h : Gr w wr G) (hb : Below wr.heap.size wr w') : Gr w w' G := by
 have hs := h.size
 refine ⟨h.below.trans (hb.mono (by omega)), by have := hb.size; omega, ?_, ?_, ?_, ?_⟩
 ·intro j hj; rw [hb.cell (by simp only; omega)]; exact h.res j hj
 ·intro j hj; rw [hb.cell (by simp only; omega)]; exact h.cur j hj
 ·intro j; rw [hb.frozen (by simp only; omega)]; exact h.fres j
 ·intro j; rw [hb.frozen (by simp only; omega)]; exact h.fcur j
theorem Gr.congr {w wr : World} {G G' : Nat → Int} (h : Gr w wr G) (e : ∀ j, j < 6 → G j = G' j) : Gr w wr G' :=
 ⟨h.below, h.size, h.res, fun j hj => by rw [← e j hj]; exact h.cur j hj, h.fres, h.fcur⟩
def idxM (x i : Value) : Sem Value := Instr.index 186 x i
theorem yvc (x i : Value) : Instr.index 186 x i = idxM x i := rfl
theorem ykn (w : World) (a : Nat → Int) (k : Nat) (hk : k < 6) : (idxM (.agg #[.int .i64 (a 0), .int .i64 (a 1), .int .i64 (a 2), .int .i64 (a 3), .int .i64 (a 4), .int .i64 (a 5)]) (.int .i64 k)).run Tryz.prog w = .ok (.int .i64 (a k)) w := by
 obtain ⟨i0, hi, hz0, hz1, hz2⟩ := info_parts info_int
 have hagg : (isAgg 3).run Tryz.prog w = .ok false w := by simp [isAgg, run_underlying Tryz.underlying3]
 match k, hk with
 |0, _ | 1, _ | 2, _ | 3, _ | 4, _ | 5, _ => simp [idxM, Instr.index, asIntOf, run_underlying Tryz.underlying186, sizeOf, typeInfo, hi, hz1, part]
theorem yra (w : World) (a : Nat → Int) : (idxM (.agg #[.int .i64 (a 0), .int .i64 (a 1), .int .i64 (a 2), .int .i64 (a 3), .int .i64 (a 4), .int .i64 (a 5)]) (.int .i64 0)).run Tryz.prog w = .ok (.int .i64 (a 0)) w := ykn w a 0 (by omega)
theorem yrb (w : World) (a : Nat → Int) : (idxM (.agg #[.int .i64 (a 0), .int .i64 (a 1), .int .i64 (a 2), .int .i64 (a 3), .int .i64 (a 4), .int .i64 (a 5)]) (.int .i64 1)).run Tryz.prog w = .ok (.int .i64 (a 1)) w := ykn w a 1 (by omega)
theorem yrc (w : World) (a : Nat → Int) : (idxM (.agg #[.int .i64 (a 0), .int .i64 (a 1), .int .i64 (a 2), .int .i64 (a 3), .int .i64 (a 4), .int .i64 (a 5)]) (.int .i64 2)).run Tryz.prog w = .ok (.int .i64 (a 2)) w := ykn w a 2 (by omega)
theorem yrd (w : World) (a : Nat → Int) : (idxM (.agg #[.int .i64 (a 0), .int .i64 (a 1), .int .i64 (a 2), .int .i64 (a 3), .int .i64 (a 4), .int .i64 (a 5)]) (.int .i64 3)).run Tryz.prog w = .ok (.int .i64 (a 3)) w := ykn w a 3 (by omega)
theorem yre (w : World) (a : Nat → Int) : (idxM (.agg #[.int .i64 (a 0), .int .i64 (a 1), .int .i64 (a 2), .int .i64 (a 3), .int .i64 (a 4), .int .i64 (a 5)]) (.int .i64 4)).run Tryz.prog w = .ok (.int .i64 (a 4)) w := ykn w a 4 (by omega)
theorem yrf (w : World) (a : Nat → Int) : (idxM (.agg #[.int .i64 (a 0), .int .i64 (a 1), .int .i64 (a 2), .int .i64 (a 3), .int .i64 (a 4), .int .i64 (a 5)]) (.int .i64 5)).run Tryz.prog w = .ok (.int .i64 (a 5)) w := ykn w a 5 (by omega)
attribute [local go_sem ↓] yvc
attribute [local go_sem] yra yrb yrc yrd yre yrf
theorem Gr.start (w : World) : Gr w ((w.alloc (.cells #[.int .i64 0, .int .i64 0, .int .i64 0, .int .i64 0, .int .i64 0, .int .i64 0] 186)).alloc (.cells #[.int .i64 0, .int .i64 0, .int .i64 0, .int .i64 0, .int .i64 0, .int .i64 0] 186)) zer := by
 have M1 := ylj.made' w #[.int .i64 0, .int .i64 0, .int .i64 0, .int .i64 0, .int .i64 0, .int .i64 0] 186 (n := 6) rfl
 have c1 : ∀ j, j < 6 → (w.alloc (.cells #[.int .i64 0, .int .i64 0, .int .i64 0, .int .i64 0, .int .i64 0, .int .i64 0] 186)).cell? ⟨w.heap.size, j, none⟩ = some (.int .i64 0) := by
  intro j hj
  simp only [World.cell?, heap_alloc_new]
  match j, hj with
  |0, _ | 1, _ | 2, _ | 3, _ | 4, _ | 5, _ => rfl
 generalize hW : w.alloc (.cells #[.int .i64 0, .int .i64 0, .int .i64 0, .int .i64 0, .int .i64 0, .int .i64 0] 186) = W at *
 have hs : W.heap.size = w.heap.size + 1 := by rw [← hW]; simp
 have M2 := ylj.made' W #[.int .i64 0, .int .i64 0, .int .i64 0, .int .i64 0, .int .i64 0, .int .i64 0] 186 (n := 6) rfl
 refine ⟨M1.below.trans (M2.below.mono (by omega)), by have := M2.lt; omega, ?_, ?_, ?_, ?_⟩
 ·intro j hj; rw [M2.below.cell (by simp only; omega)]; exact c1 j hj
 ·intro j hj
  rw [← hs]
  simp only [World.cell?, heap_alloc_new]
  match j, hj with
  |0, _ | 1, _ | 2, _ | 3, _ | 4, _ | 5, _ => rfl
 ·intro j; rw [M2.below.frozen (by simp only; omega)]; exact M1.fz j
 ·intro j; rw [← hs]; exact M2.fz j
theorem ycj (g c : Nat) (a b : Nat → Int) (w : World) (hg : g < w.heap.size) (ha : ∀ j, j < 6 → w.cell? ⟨g, j, none⟩ = some (.int .i64 (a j))) (hb : ∀ j, j < 6 → w.cell? ⟨g, 6 + j, none⟩ = some (.int .i64 (b j))) :
  Calls Tryz.prog 128 #[.slice (some ⟨g, 0, none⟩) 2 c] w fun e w' => e = .returned (.agg #[.int .i64 (yab a b 0), .int .i64 (yab a b 1), .int .i64 (yab a b 2), .int .i64 (yab a b 3), .int .i64 (yab a b 4), .int .i64 (yab a b 5)]) ∧ Below w.heap.size w w' := by
 have start := yac (Gr.start w)
 have HA := yac ha
 have HB := yac hb
 clear ha hb
 go_enter Tryz.func128, Tryz.ntmps128
 go_wp2
 go_loopw [10] (fun i wr => ∃ k : Nat, k ≤ 2 ∧ i = .int .i64 k ∧ Hid (Gr w wr (if k = 0 then zer else if k = 1 then g1 a else yab a b))) (fun i _ => 2 - (intOf i).toNat)
 case atStart => exact ⟨0, by omega, rfl, start⟩
 case round =>
  obtain ⟨k, hk, rfl, hG⟩ := hrel
  have hsz := hG.out.size
  match k, hk with
  |0, _ =>
   have hG1 : Hid (Gr w wr (zer)) := hG
   clear hG
   have q0 : wr.cell? ⟨g, 0, none⟩ = some (.int .i64 (a 0)) := (hG1.out.below.cell (p := ⟨g, 0, none⟩) hg).trans (HA.out 0 (by omega))
   have q1 : wr.cell? ⟨g, 1, none⟩ = some (.int .i64 (a 1)) := (hG1.out.below.cell (p := ⟨g, 1, none⟩) hg).trans (HA.out 1 (by omega))
   have q2 : wr.cell? ⟨g, 2, none⟩ = some (.int .i64 (a 2)) := (hG1.out.below.cell (p := ⟨g, 2, none⟩) hg).trans (HA.out 2 (by omega))
   have q3 : wr.cell? ⟨g, 3, none⟩ = some (.int .i64 (a 3)) := (hG1.out.below.cell (p := ⟨g, 3, none⟩) hg).trans (HA.out 3 (by omega))
   have q4 : wr.cell? ⟨g, 4, none⟩ = some (.int .i64 (a 4)) := (hG1.out.below.cell (p := ⟨g, 4, none⟩) hg).trans (HA.out 4 (by omega))
   have q5 : wr.cell? ⟨g, 5, none⟩ = some (.int .i64 (a 5)) := (hG1.out.below.cell (p := ⟨g, 5, none⟩) hg).trans (HA.out 5 (by omega))
   go_wp2
   clear q0 q1 q2 q3 q4 q5
   have hG2 : Hid (Gr w _ (yag (zer) a 0)) := (hG1.out.more ((Below.refl _ _).alloc (Nat.le_refl _) (.cells #[.int .i64 (a 0), .int .i64 (a 1), .int .i64 (a 2), .int .i64 (a 3), .int .i64 (a 4), .int .i64 (a 5)] 186))).congr (fun j _ => by simp [yag])
   go_loopw [15] (fun i wi => ∃ k : Nat, k ≤ 6 ∧ i = .int .i64 k ∧ Hid (Gr w wi (yag (zer) a k))) (fun i _ => 6 - (intOf i).toNat)
   case atStart => exact ⟨0, by omega, rfl, hG2⟩
   case round =>
    obtain ⟨k, hk, rfl, hI⟩ := hrel
    clear hG1 hG2 hsz
    match k, hk with
    |0, _ =>
     have c1 := hI.out.cur 0 (by omega)
     have f1 := hI.out.fcur 0
     have e1 : yag (zer) a 0 0 = (zer) 0 := by simp [yag]
     rw [e1] at c1
     have N : Hid (Gr w _ (yag (zer) a 1)) := (hI.out.set 0 (by omega) (if zer 0 < a 0 then a 0 else zer 0)).congr (fun j hj => by match j, hj with | 0, _ | 1, _ | 2, _ | 3, _ | 4, _ | 5, _ => simp [yag])
     clear e1
     go_wp2
     go_roundw
     case rel => exact ⟨1, by omega, by go_num, N⟩
     case measure => simp [intOf]
    |1, _ =>
     have c1 := hI.out.cur 1 (by omega)
     have f1 := hI.out.fcur 1
     have e1 : yag (zer) a 1 1 = (zer) 1 := by simp [yag]
     rw [e1] at c1
     have N : Hid (Gr w _ (yag (zer) a 2)) := (hI.out.set 1 (by omega) (if zer 1 < a 1 then a 1 else zer 1)).congr (fun j hj => by match j, hj with | 0, _ | 1, _ | 2, _ | 3, _ | 4, _ | 5, _ => simp [yag])
     clear e1
     go_wp2
     go_roundw
     case rel => exact ⟨2, by omega, by go_num, N⟩
     case measure => simp [intOf]
    |2, _ =>
     have c1 := hI.out.cur 2 (by omega)
     have f1 := hI.out.fcur 2
     have e1 : yag (zer) a 2 2 = (zer) 2 := by simp [yag]
     rw [e1] at c1
     have N : Hid (Gr w _ (yag (zer) a 3)) := (hI.out.set 2 (by omega) (if zer 2 < a 2 then a 2 else zer 2)).congr (fun j hj => by match j, hj with | 0, _ | 1, _ | 2, _ | 3, _ | 4, _ | 5, _ => simp [yag])
     clear e1
     go_wp2
     go_roundw
     case rel => exact ⟨3, by omega, by go_num, N⟩
     case measure => simp [intOf]
    |3, _ =>
     have c1 := hI.out.cur 3 (by omega)
     have f1 := hI.out.fcur 3
     have e1 : yag (zer) a 3 3 = (zer) 3 := by simp [yag]
     rw [e1] at c1
     have N : Hid (Gr w _ (yag (zer) a 4)) := (hI.out.set 3 (by omega) (if zer 3 < a 3 then a 3 else zer 3)).congr (fun j hj => by match j, hj with | 0, _ | 1, _ | 2, _ | 3, _ | 4, _ | 5, _ => simp [yag])
     clear e1
     go_wp2
     go_roundw
     case rel => exact ⟨4, by omega, by go_num, N⟩
     case measure => simp [intOf]
    |4, _ =>
     have c1 := hI.out.cur 4 (by omega)
     have f1 := hI.out.fcur 4
     have e1 : yag (zer) a 4 4 = (zer) 4 := by simp [yag]
     rw [e1] at c1
     have N : Hid (Gr w _ (yag (zer) a 5)) := (hI.out.set 4 (by omega) (if zer 4 < a 4 then a 4 else zer 4)).congr (fun j hj => by match j, hj with | 0, _ | 1, _ | 2, _ | 3, _ | 4, _ | 5, _ => simp [yag])
     clear e1
     go_wp2
     go_roundw
     case rel => exact ⟨5, by omega, by go_num, N⟩
     case measure => simp [intOf]
    |5, _ =>
     have c1 := hI.out.cur 5 (by omega)
     have f1 := hI.out.fcur 5
     have e1 : yag (zer) a 5 5 = (zer) 5 := by simp [yag]
     rw [e1] at c1
     have N : Hid (Gr w _ (yag (zer) a 6)) := (hI.out.set 5 (by omega) (if zer 5 < a 5 then a 5 else zer 5)).congr (fun j hj => by match j, hj with | 0, _ | 1, _ | 2, _ | 3, _ | 4, _ | 5, _ => simp [yag])
     clear e1
     go_wp2
     go_roundw
     case rel => exact ⟨6, by omega, by go_num, N⟩
     case measure => simp [intOf]
    |6, _ =>
     have N : Hid (Gr w wr (g1 a)) := hI.out.congr (fun j hj => by match j, hj with | 0, _ | 1, _ | 2, _ | 3, _ | 4, _ | 5, _ => simp [yag, g1])
     go_wp2
     go_roundw
     case rel => exact ⟨1, by omega, by go_num, N⟩
     case measure => simp [intOf]
  |1, _ =>
   have hG1 : Hid (Gr w wr (g1 a)) := hG
   clear hG
   have q0 : wr.cell? ⟨g, 6, none⟩ = some (.int .i64 (b 0)) := (hG1.out.below.cell (p := ⟨g, 6, none⟩) hg).trans (HB.out 0 (by omega))
   have q1 : wr.cell? ⟨g, 7, none⟩ = some (.int .i64 (b 1)) := (hG1.out.below.cell (p := ⟨g, 7, none⟩) hg).trans (HB.out 1 (by omega))
   have q2 : wr.cell? ⟨g, 8, none⟩ = some (.int .i64 (b 2)) := (hG1.out.below.cell (p := ⟨g, 8, none⟩) hg).trans (HB.out 2 (by omega))
   have q3 : wr.cell? ⟨g, 9, none⟩ = some (.int .i64 (b 3)) := (hG1.out.below.cell (p := ⟨g, 9, none⟩) hg).trans (HB.out 3 (by omega))
   have q4 : wr.cell? ⟨g, 10, none⟩ = some (.int .i64 (b 4)) := (hG1.out.below.cell (p := ⟨g, 10, none⟩) hg).trans (HB.out 4 (by omega))
   have q5 : wr.cell? ⟨g, 11, none⟩ = some (.int .i64 (b 5)) := (hG1.out.below.cell (p := ⟨g, 11, none⟩) hg).trans (HB.out 5 (by omega))
   go_wp2
   clear q0 q1 q2 q3 q4 q5
   have hG2 : Hid (Gr w _ (yag (g1 a) b 0)) := (hG1.out.more ((Below.refl _ _).alloc (Nat.le_refl _) (.cells #[.int .i64 (b 0), .int .i64 (b 1), .int .i64 (b 2), .int .i64 (b 3), .int .i64 (b 4), .int .i64 (b 5)] 186))).congr (fun j _ => by simp [yag])
   go_loopw [15] (fun i wi => ∃ k : Nat, k ≤ 6 ∧ i = .int .i64 k ∧ Hid (Gr w wi (yag (g1 a) b k))) (fun i _ => 6 - (intOf i).toNat)
   case atStart => exact ⟨0, by omega, rfl, hG2⟩
   case round =>
    obtain ⟨k, hk, rfl, hI⟩ := hrel
    clear hG1 hG2 hsz
    match k, hk with
    |0, _ =>
     have c1 := hI.out.cur 0 (by omega)
     have f1 := hI.out.fcur 0
     have e1 : yag (g1 a) b 0 0 = (g1 a) 0 := by simp [yag]
     rw [e1] at c1
     have N : Hid (Gr w _ (yag (g1 a) b 1)) := (hI.out.set 0 (by omega) (if g1 a 0 < b 0 then b 0 else g1 a 0)).congr (fun j hj => by match j, hj with | 0, _ | 1, _ | 2, _ | 3, _ | 4, _ | 5, _ => simp [yag])
     clear e1
     go_wp2
     go_roundw
     case rel => exact ⟨1, by omega, by go_num, N⟩
     case measure => simp [intOf]
    |1, _ =>
     have c1 := hI.out.cur 1 (by omega)
     have f1 := hI.out.fcur 1
     have e1 : yag (g1 a) b 1 1 = (g1 a) 1 := by simp [yag]
     rw [e1] at c1
     have N : Hid (Gr w _ (yag (g1 a) b 2)) := (hI.out.set 1 (by omega) (if g1 a 1 < b 1 then b 1 else g1 a 1)).congr (fun j hj => by match j, hj with | 0, _ | 1, _ | 2, _ | 3, _ | 4, _ | 5, _ => simp [yag])
     clear e1
     go_wp2
     go_roundw
     case rel => exact ⟨2, by omega, by go_num, N⟩
     case measure => simp [intOf]
    |2, _ =>
     have c1 := hI.out.cur 2 (by omega)
     have f1 := hI.out.fcur 2
     have e1 : yag (g1 a) b 2 2 = (g1 a) 2 := by simp [yag]
     rw [e1] at c1
     have N : Hid (Gr w _ (yag (g1 a) b 3)) := (hI.out.set 2 (by omega) (if g1 a 2 < b 2 then b 2 else g1 a 2)).congr (fun j hj => by match j, hj with | 0, _ | 1, _ | 2, _ | 3, _ | 4, _ | 5, _ => simp [yag])
     clear e1
     go_wp2
     go_roundw
     case rel => exact ⟨3, by omega, by go_num, N⟩
     case measure => simp [intOf]
    |3, _ =>
     have c1 := hI.out.cur 3 (by omega)
     have f1 := hI.out.fcur 3
     have e1 : yag (g1 a) b 3 3 = (g1 a) 3 := by simp [yag]
     rw [e1] at c1
     have N : Hid (Gr w _ (yag (g1 a) b 4)) := (hI.out.set 3 (by omega) (if g1 a 3 < b 3 then b 3 else g1 a 3)).congr (fun j hj => by match j, hj with | 0, _ | 1, _ | 2, _ | 3, _ | 4, _ | 5, _ => simp [yag])
     clear e1
     go_wp2
     go_roundw
     case rel => exact ⟨4, by omega, by go_num, N⟩
     case measure => simp [intOf]
    |4, _ =>
     have c1 := hI.out.cur 4 (by omega)
     have f1 := hI.out.fcur 4
     have e1 : yag (g1 a) b 4 4 = (g1 a) 4 := by simp [yag]
     rw [e1] at c1
     have N : Hid (Gr w _ (yag (g1 a) b 5)) := (hI.out.set 4 (by omega) (if g1 a 4 < b 4 then b 4 else g1 a 4)).congr (fun j hj => by match j, hj with | 0, _ | 1, _ | 2, _ | 3, _ | 4, _ | 5, _ => simp [yag])
     clear e1
     go_wp2
     go_roundw
     case rel => exact ⟨5, by omega, by go_num, N⟩
     case measure => simp [intOf]
    |5, _ =>
     have c1 := hI.out.cur 5 (by omega)
     have f1 := hI.out.fcur 5
     have e1 : yag (g1 a) b 5 5 = (g1 a) 5 := by simp [yag]
     rw [e1] at c1
     have N : Hid (Gr w _ (yag (g1 a) b 6)) := (hI.out.set 5 (by omega) (if g1 a 5 < b 5 then b 5 else g1 a 5)).congr (fun j hj => by match j, hj with | 0, _ | 1, _ | 2, _ | 3, _ | 4, _ | 5, _ => simp [yag])
     clear e1
     go_wp2
     go_roundw
     case rel => exact ⟨6, by omega, by go_num, N⟩
     case measure => simp [intOf]
    |6, _ =>
     have N : Hid (Gr w wr (yab a b)) := hI.out.congr (fun j hj => by match j, hj with | 0, _ | 1, _ | 2, _ | 3, _ | 4, _ | 5, _ => simp [yag, yab, g1])
     go_wp2
     go_roundw
     case rel => exact ⟨2, by omega, by go_num, N⟩
     case measure => simp [intOf]
  |2, _ =>
   have hG1 : Hid (Gr w wr (yab a b)) := hG
   clear hG
   have r0 := hG1.out.res 0 (by omega)
   have c0 := hG1.out.cur 0 (by omega)
   have f0 := hG1.out.fres 0
   have r1 := hG1.out.res 1 (by omega)
   have c1 := hG1.out.cur 1 (by omega)
   have f1 := hG1.out.fres 1
   have r2 := hG1.out.res 2 (by omega)
   have c2 := hG1.out.cur 2 (by omega)
   have f2 := hG1.out.fres 2
   have r3 := hG1.out.res 3 (by omega)
   have c3 := hG1.out.cur 3 (by omega)
   have f3 := hG1.out.fres 3
   have r4 := hG1.out.res 4 (by omega)
   have c4 := hG1.out.cur 4 (by omega)
   have f4 := hG1.out.fres 4
   have r5 := hG1.out.res 5 (by omega)
   have c5 := hG1.out.cur 5 (by omega)
   have f5 := hG1.out.fres 5
   go_wp2
   refine bodyPost_ret (v := .agg #[.int .i64 (yab a b 0), .int .i64 (yab a b 1), .int .i64 (yab a b 2), .int .i64 (yab a b 3), .int .i64 (yab a b 4), .int .i64 (yab a b 5)]) (by simp [results, Tryz.results128, go_sem, r0, r1, r2, r3, r4, r5]) rfl ⟨rfl, ?_⟩
   repeat' (first | exact hG1.out.below | refine Below.setCell ?_ (by simp <;> omega) _)
end Go.Proofs.YtaelaldmibgibaaGreatDoor

namespace Go.Proofs.YtaelaldmibgibaaGreatDoor
open Go.RowKit
structure Rec where
 text : ByteArray
 br : Int
 bn : Int
 ch : Nat → Int
 kn : Nat → Int
def ybs (R : Rec) : Value := .agg #[.string R.text, .int .i64 R.br, .int .i64 R.bn, .int .i64 (R.ch 0), .int .i64 (R.ch 1), .int .i64 (R.ch 2), .int .i64 (R.ch 3), .int .i64 (R.ch 4), .int .i64 (R.ch 5)]
def yae (R : Rec) : Value := .agg #[.string R.text, .int .i64 R.br, .int .i64 R.bn, .int .i64 (R.ch 0), .int .i64 (R.ch 1), .int .i64 (R.ch 2), .int .i64 (R.ch 3), .int .i64 (R.ch 4), .int .i64 (R.ch 5), .int .i64 (R.kn 0), .int .i64 (R.kn 1), .int .i64 (R.kn 2), .int .i64 (R.kn 3), .int .i64 (R.kn 4), .int .i64 (R.kn 5)]
def ywq (t : Nat → Int) : Value := .agg #[.int .i64 (t 0), .int .i64 (t 1), .int .i64 (t 2), .int .i64 (t 3), .int .i64 (t 4), .int .i64 (t 5)]
theorem yav (t : ByteArray) (x y a0 a1 a2 a3 a4 a5 : Int) (w : World) :
  Calls Tryz.prog 113 #[.agg #[.string t, .int .i64 x, .int .i64 y, .int .i64 a0, .int .i64 a1, .int .i64 a2, .int .i64 a3, .int .i64 a4, .int .i64 a5]] w fun e w' => e = .returned (.bool (decide (0 < y))) ∧ Below w.heap.size w w' := by
 go_enter Tryz.func113, Tryz.ntmps113
 go_wp2
 go_ret
 exact ⟨rfl, (Below.refl _ _).alloc (Nat.le_refl _) _⟩
structure ybl (w : World) (rb s : Nat) (cm : Nat → Int) (mb : Nat) : Prop where
 blk : w.heap[rb]? = some (.cells #[.int .i64 s, .int .i64 (cm 0), .int .i64 (cm 1), .int .i64 (cm 2), .int .i64 (cm 3), .int .i64 (cm 4), .int .i64 (cm 5), .map (some mb)] 188 (0, 0))
 hs : s < 6
theorem ybl.c0 {w rb s cm mb} (h : ybl w rb s cm mb) : w.cell? ⟨rb, 0, none⟩ = some (.int .i64 s) := by simp [World.cell?, h.blk]
theorem ybl.c7 {w rb s cm mb} (h : ybl w rb s cm mb) : w.cell? ⟨rb, 7, none⟩ = some (.map (some mb)) := by simp [World.cell?, h.blk]
theorem ybl.ct {w rb s cm mb} (h : ybl w rb s cm mb) (j : Nat) (hj : j < 6) : w.cell? ⟨rb, 1 + j, none⟩ = some (.int .i64 (cm j)) := by
 simp only [World.cell?, h.blk]
 match j, hj with
 |0, _ | 1, _ | 2, _ | 3, _ | 4, _ | 5, _ => rfl
theorem ybl.fz {w rb s cm mb} (h : ybl w rb s cm mb) (j : Nat) : w.frozen? ⟨rb, j, none⟩ = false := by simp [World.frozen?, h.blk]
theorem ybl.lt {w rb s cm mb} (h : ybl w rb s cm mb) : rb < w.heap.size := (Array.getElem?_eq_some_iff.1 h.blk).1
theorem ybl.keep {w w' : World} {rb s : Nat} {cm : Nat → Int} {mb : Nat} (h : ybl w rb s cm mb) (hk : w'.heap[rb]? = w.heap[rb]?) : ybl w' rb s cm mb := ⟨by rw [hk]; exact h.blk, h.hs⟩
theorem yji (rb s : Nat) (cm : Nat → Int) (mb : Nat) (w : World) (h : ybl w rb s cm mb) :
  Calls Tryz.prog 168 #[.pointer (some ⟨rb, 0, none⟩)] w fun e w' => e = .returned (.int .i64 (cm s)) ∧ ∃ nq, w' = w.drewN nq := by
 have c0 := h.c0
 have cs := h.ct s h.hs
 have hs := h.hs
 have hs1 : (0 : Int) ≤ (s : Int) := by omega
 have hs2 : (s : Int) < 6 := by omega
 clear h
 generalize cm s = x at *
 go_enter Tryz.func168, Tryz.ntmps168
 go_wp2
 go_quiet (fail)
 go_wp2
 go_ret
 exact ⟨rfl, _, rfl⟩
theorem yhb (rb s : Nat) (cm : Nat → Int) (mb : Nat) (w : World) (h : ybl w rb s cm mb) :
  Calls Tryz.prog 105 #[.pointer (some ⟨rb, 0, none⟩)] w fun e w' => e = .returned (.bool (decide (1000000000 ≤ cm s))) ∧ ∃ nq, w' = w.drewN nq := by
 have C := yac (yji rb s cm mb w h)
 clear h
 go_enter Tryz.func105, Tryz.ntmps105
 go_wp2_with (go_at_call 168; refine C.out.mono ?_; rintro e w' ⟨rfl, nq, rfl⟩)
 go_ret
 exact ⟨rfl, _, rfl⟩
def eqT (t u : Nat → Int) : Bool := (t 0 == u 0) && ((t 1 == u 1) && ((t 2 == u 2) && ((t 3 == u 3) && ((t 4 == u 4) && (t 5 == u 5)))))
theorem cells_int : Tryz.prog.cellsOf 3 = 1 := by kernel_rfl
theorem ywh (t u : Nat → Int) (w : World) : (Op.equalIn 10000 186 (.agg #[.int .i64 (t 0), .int .i64 (t 1), .int .i64 (t 2), .int .i64 (t 3), .int .i64 (t 4), .int .i64 (t 5)]) (.agg #[.int .i64 (u 0), .int .i64 (u 1), .int .i64 (u 2), .int .i64 (u 3), .int .i64 (u 4), .int .i64 (u 5)])).run Tryz.prog w = .ok (eqT t u) w := by
 obtain ⟨i0, hi, hz0, hz1, hz2⟩ := info_parts info_int
 have hagg : ∀ w, (isAgg 3).run Tryz.prog w = .ok false w := fun w => by simp [isAgg, run_underlying Tryz.underlying3]
 have hr : List.range 6 = [0, 1, 2, 3, 4, 5] := rfl
 have heq : ∀ (x y : Int) (w : World), (Op.equalIn 9999 3 (.int .i64 x) (.int .i64 y)).run Tryz.prog w = .ok (x == y) w := fun x y w => run_equalIn_int w 9998 3 .i64 .i64 x y Tryz.underlying3
 rw [show (10000 : Nat) = 9999 + 1 from rfl, run_equalIn_array w 9999 _ _ Tryz.underlying186 hi, hr, cells_int]
 have hp : ∀ (t : Nat → Int) (k : Nat) (w : World), k < 6 → (part 3 #[.int .i64 (t 0), .int .i64 (t 1), .int .i64 (t 2), .int .i64 (t 3), .int .i64 (t 4), .int .i64 (t 5)] (k * 1)).run Tryz.prog w = .ok (.int .i64 (t k)) w := by
  intro t k w hk
  match k, hk with
  |0, _ | 1, _ | 2, _ | 3, _ | 4, _ | 5, _ => simp [part, hagg]
 have step : ∀ (is : List Nat) (k : Nat) (w : World), k < 6 → (Op.eqItems 9999 3 1 #[.int .i64 (t 0), .int .i64 (t 1), .int .i64 (t 2), .int .i64 (t 3), .int .i64 (t 4), .int .i64 (t 5)] #[.int .i64 (u 0), .int .i64 (u 1), .int .i64 (u 2), .int .i64 (u 3), .int .i64 (u 4), .int .i64 (u 5)] (k :: is)).run Tryz.prog w =
   if (t k == u k) = true then (Op.eqItems 9999 3 1 #[.int .i64 (t 0), .int .i64 (t 1), .int .i64 (t 2), .int .i64 (t 3), .int .i64 (t 4), .int .i64 (t 5)] #[.int .i64 (u 0), .int .i64 (u 1), .int .i64 (u 2), .int .i64 (u 3), .int .i64 (u 4), .int .i64 (u 5)] is).run Tryz.prog w else .ok false w := by
  intro is k w hk
  simp only [Op.eqItems, Sem.run_bind, hp t k w hk, hp u k w hk, heq, Result.andThen_ok]
  cases t k == u k <;> simp
 rw [step _ 0 w (by omega), step _ 1 w (by omega), step _ 2 w (by omega), step _ 3 w (by omega), step _ 4 w (by omega), step _ 5 w (by omega)]
 unfold eqT
 cases t 0 == u 0 <;> cases t 1 == u 1 <;> cases t 2 == u 2 <;> cases t 3 == u 3 <;> cases t 4 == u 4 <;> cases t 5 == u 5 <;> rfl
def eqM (x y : Value) : Sem Value := binOp .eql 186 x y
theorem eqTime (x y : Value) : binOp .eql 186 x y = eqM x y := rfl
theorem yqz (t u : Nat → Int) (w : World) : (eqM (.agg #[.int .i64 (t 0), .int .i64 (t 1), .int .i64 (t 2), .int .i64 (t 3), .int .i64 (t 4), .int .i64 (t 5)]) (.agg #[.int .i64 (u 0), .int .i64 (u 1), .int .i64 (u 2), .int .i64 (u 3), .int .i64 (u 4), .int .i64 (u 5)])).run Tryz.prog w = .ok (.bool (eqT t u)) w := by
 unfold eqM
 rw [run_eql_struct, ywh]
 rfl
attribute [local go_sem ↓] eqTime
attribute [local go_sem] yqz
theorem isJust_any (t u : Nat → Int) (w : World) :
  Calls Tryz.prog 199 #[.agg #[.int .i64 (t 0), .int .i64 (t 1), .int .i64 (t 2), .int .i64 (t 3), .int .i64 (t 4), .int .i64 (t 5)], .agg #[.int .i64 (u 0), .int .i64 (u 1), .int .i64 (u 2), .int .i64 (u 3), .int .i64 (u 4), .int .i64 (u 5)]] w fun e w' => e = .returned (.bool (eqT t u)) ∧ Below w.heap.size w w' := by
 go_enter Tryz.func199, Tryz.ntmps199
 go_wp2
 go_ret
 exact ⟨rfl, ((Below.refl _ _).alloc (Nat.le_refl _) _).alloc (by simp) _⟩
end Go.Proofs.YtaelaldmibgibaaGreatDoor

namespace Go.Proofs.YtaelaldmibgibaaGreatDoor
open Go.RowKit
attribute [local go_sem ↓] yvc
attribute [local go_sem] yra yrb yrc yrd yre yrf
theorem yrq (g c : Nat) (a : Nat → Int) (w : World) (hg : g < w.heap.size) (ha : ∀ j, j < 6 → w.cell? ⟨g, j, none⟩ = some (.int .i64 (a j))) :
  Calls Tryz.prog 128 #[.slice (some ⟨g, 0, none⟩) 1 c] w fun e w' => e = .returned (.agg #[.int .i64 (g1 a 0), .int .i64 (g1 a 1), .int .i64 (g1 a 2), .int .i64 (g1 a 3), .int .i64 (g1 a 4), .int .i64 (g1 a 5)]) ∧ Below w.heap.size w w' := by
 have start := yac (Gr.start w)
 have HA := yac ha
 clear ha
 go_enter Tryz.func128, Tryz.ntmps128
 go_wp2
 go_loopw [10] (fun i wr => ∃ k : Nat, k ≤ 1 ∧ i = .int .i64 k ∧ Hid (Gr w wr (if k = 0 then zer else g1 a))) (fun i _ => 1 - (intOf i).toNat)
 case atStart => exact ⟨0, by omega, rfl, start⟩
 case round =>
  obtain ⟨k, hk, rfl, hG⟩ := hrel
  have hsz := hG.out.size
  match k, hk with
  |0, _ =>
   have hG1 : Hid (Gr w wr (zer)) := hG
   clear hG
   have q0 : wr.cell? ⟨g, 0, none⟩ = some (.int .i64 (a 0)) := (hG1.out.below.cell (p := ⟨g, 0, none⟩) hg).trans (HA.out 0 (by omega))
   have q1 : wr.cell? ⟨g, 1, none⟩ = some (.int .i64 (a 1)) := (hG1.out.below.cell (p := ⟨g, 1, none⟩) hg).trans (HA.out 1 (by omega))
   have q2 : wr.cell? ⟨g, 2, none⟩ = some (.int .i64 (a 2)) := (hG1.out.below.cell (p := ⟨g, 2, none⟩) hg).trans (HA.out 2 (by omega))
   have q3 : wr.cell? ⟨g, 3, none⟩ = some (.int .i64 (a 3)) := (hG1.out.below.cell (p := ⟨g, 3, none⟩) hg).trans (HA.out 3 (by omega))
   have q4 : wr.cell? ⟨g, 4, none⟩ = some (.int .i64 (a 4)) := (hG1.out.below.cell (p := ⟨g, 4, none⟩) hg).trans (HA.out 4 (by omega))
   have q5 : wr.cell? ⟨g, 5, none⟩ = some (.int .i64 (a 5)) := (hG1.out.below.cell (p := ⟨g, 5, none⟩) hg).trans (HA.out 5 (by omega))
   go_wp2
   clear q0 q1 q2 q3 q4 q5
   have hG2 : Hid (Gr w _ (yag (zer) a 0)) := (hG1.out.more ((Below.refl _ _).alloc (Nat.le_refl _) (.cells #[.int .i64 (a 0), .int .i64 (a 1), .int .i64 (a 2), .int .i64 (a 3), .int .i64 (a 4), .int .i64 (a 5)] 186))).congr (fun j _ => by simp [yag])
   go_loopw [15] (fun i wi => ∃ k : Nat, k ≤ 6 ∧ i = .int .i64 k ∧ Hid (Gr w wi (yag (zer) a k))) (fun i _ => 6 - (intOf i).toNat)
   case atStart => exact ⟨0, by omega, rfl, hG2⟩
   case round =>
    obtain ⟨k, hk, rfl, hI⟩ := hrel
    clear hG1 hG2 hsz
    match k, hk with
    |0, _ =>
     have c1 := hI.out.cur 0 (by omega)
     have f1 := hI.out.fcur 0
     have e1 : yag (zer) a 0 0 = (zer) 0 := by simp [yag]
     rw [e1] at c1
     have N : Hid (Gr w _ (yag (zer) a 1)) := (hI.out.set 0 (by omega) (if zer 0 < a 0 then a 0 else zer 0)).congr (fun j hj => by match j, hj with | 0, _ | 1, _ | 2, _ | 3, _ | 4, _ | 5, _ => simp [yag])
     clear e1
     go_wp2
     go_roundw
     case rel => exact ⟨1, by omega, by go_num, N⟩
     case measure => simp [intOf]
    |1, _ =>
     have c1 := hI.out.cur 1 (by omega)
     have f1 := hI.out.fcur 1
     have e1 : yag (zer) a 1 1 = (zer) 1 := by simp [yag]
     rw [e1] at c1
     have N : Hid (Gr w _ (yag (zer) a 2)) := (hI.out.set 1 (by omega) (if zer 1 < a 1 then a 1 else zer 1)).congr (fun j hj => by match j, hj with | 0, _ | 1, _ | 2, _ | 3, _ | 4, _ | 5, _ => simp [yag])
     clear e1
     go_wp2
     go_roundw
     case rel => exact ⟨2, by omega, by go_num, N⟩
     case measure => simp [intOf]
    |2, _ =>
     have c1 := hI.out.cur 2 (by omega)
     have f1 := hI.out.fcur 2
     have e1 : yag (zer) a 2 2 = (zer) 2 := by simp [yag]
     rw [e1] at c1
     have N : Hid (Gr w _ (yag (zer) a 3)) := (hI.out.set 2 (by omega) (if zer 2 < a 2 then a 2 else zer 2)).congr (fun j hj => by match j, hj with | 0, _ | 1, _ | 2, _ | 3, _ | 4, _ | 5, _ => simp [yag])
     clear e1
     go_wp2
     go_roundw
     case rel => exact ⟨3, by omega, by go_num, N⟩
     case measure => simp [intOf]
    |3, _ =>
     have c1 := hI.out.cur 3 (by omega)
     have f1 := hI.out.fcur 3
     have e1 : yag (zer) a 3 3 = (zer) 3 := by simp [yag]
     rw [e1] at c1
     have N : Hid (Gr w _ (yag (zer) a 4)) := (hI.out.set 3 (by omega) (if zer 3 < a 3 then a 3 else zer 3)).congr (fun j hj => by match j, hj with | 0, _ | 1, _ | 2, _ | 3, _ | 4, _ | 5, _ => simp [yag])
     clear e1
     go_wp2
     go_roundw
     case rel => exact ⟨4, by omega, by go_num, N⟩
     case measure => simp [intOf]
    |4, _ =>
     have c1 := hI.out.cur 4 (by omega)
     have f1 := hI.out.fcur 4
     have e1 : yag (zer) a 4 4 = (zer) 4 := by simp [yag]
     rw [e1] at c1
     have N : Hid (Gr w _ (yag (zer) a 5)) := (hI.out.set 4 (by omega) (if zer 4 < a 4 then a 4 else zer 4)).congr (fun j hj => by match j, hj with | 0, _ | 1, _ | 2, _ | 3, _ | 4, _ | 5, _ => simp [yag])
     clear e1
     go_wp2
     go_roundw
     case rel => exact ⟨5, by omega, by go_num, N⟩
     case measure => simp [intOf]
    |5, _ =>
     have c1 := hI.out.cur 5 (by omega)
     have f1 := hI.out.fcur 5
     have e1 : yag (zer) a 5 5 = (zer) 5 := by simp [yag]
     rw [e1] at c1
     have N : Hid (Gr w _ (yag (zer) a 6)) := (hI.out.set 5 (by omega) (if zer 5 < a 5 then a 5 else zer 5)).congr (fun j hj => by match j, hj with | 0, _ | 1, _ | 2, _ | 3, _ | 4, _ | 5, _ => simp [yag])
     clear e1
     go_wp2
     go_roundw
     case rel => exact ⟨6, by omega, by go_num, N⟩
     case measure => simp [intOf]
    |6, _ =>
     have N : Hid (Gr w wr (g1 a)) := hI.out.congr (fun j hj => by match j, hj with | 0, _ | 1, _ | 2, _ | 3, _ | 4, _ | 5, _ => simp [yag, g1])
     go_wp2
     go_roundw
     case rel => exact ⟨1, by omega, by go_num, N⟩
     case measure => simp [intOf]
  |1, _ =>
   have hG1 : Hid (Gr w wr (g1 a)) := hG
   clear hG
   have r0 := hG1.out.res 0 (by omega)
   have c0 := hG1.out.cur 0 (by omega)
   have f0 := hG1.out.fres 0
   have r1 := hG1.out.res 1 (by omega)
   have c1 := hG1.out.cur 1 (by omega)
   have f1 := hG1.out.fres 1
   have r2 := hG1.out.res 2 (by omega)
   have c2 := hG1.out.cur 2 (by omega)
   have f2 := hG1.out.fres 2
   have r3 := hG1.out.res 3 (by omega)
   have c3 := hG1.out.cur 3 (by omega)
   have f3 := hG1.out.fres 3
   have r4 := hG1.out.res 4 (by omega)
   have c4 := hG1.out.cur 4 (by omega)
   have f4 := hG1.out.fres 4
   have r5 := hG1.out.res 5 (by omega)
   have c5 := hG1.out.cur 5 (by omega)
   have f5 := hG1.out.fres 5
   go_wp2
   refine bodyPost_ret (v := .agg #[.int .i64 (g1 a 0), .int .i64 (g1 a 1), .int .i64 (g1 a 2), .int .i64 (g1 a 3), .int .i64 (g1 a 4), .int .i64 (g1 a 5)]) (by simp [results, Tryz.results128, go_sem, r0, r1, r2, r3, r4, r5]) rfl ⟨rfl, ?_⟩
   repeat' (first | exact hG1.out.below | refine Below.setCell ?_ (by simp <;> omega) _)
end Go.Proofs.YtaelaldmibgibaaGreatDoor

namespace Go.Proofs.YtaelaldmibgibaaGreatDoor
open Go.RowKit
attribute [local go_sem ↓] Go.wp_at_zero Go.wp_at_succ
end Go.Proofs.YtaelaldmibgibaaGreatDoor

namespace Go.Proofs.YtaelaldmibgibaaGreatDoor
open Go.RowKit
attribute [local go_sem ↓] Go.wp_at_zero Go.wp_at_succ
theorem size_State : (Tryz.prog.info? 166).map (·.size) = some 3 := by kernel_rfl
theorem ywn (p v : Value) : Instr.storeAt 166 p v = stM 166 p v := rfl
theorem yja (w : World) (b : Nat) (x0 x1 x2 : Int) (ht : w.there b 0 3) :
  (stM 166 (.pointer (some ⟨b, 0, none⟩)) (.agg #[.int .i64 x0, .int .i64 x1, .int .i64 x2])).run Tryz.prog w = .ok () (w.setCells b 0 [.int .i64 x0, .int .i64 x1, .int .i64 x2]) :=
 run_storeAt_mid w b 0 _ #[.int .i64 x0, .int .i64 x1, .int .i64 x2] ht size_State (by simp [Value.oneCell'])
attribute [local go_sem ↓] ywn
attribute [local go_sem] yja
theorem ykj {w : World} {k n : Nat} {W : World} (h : ylj w k n W) (m : Nat) : ylj w k n (W.drewN m) := ⟨⟨h.below.os, h.below.tape, h.below.output, h.below.size, h.below.block⟩, h.ge, h.lt, h.some, h.fz⟩
end Go.Proofs.YtaelaldmibgibaaGreatDoor

namespace Go.Proofs.YtaelaldmibgibaaGreatDoor
open Go.RowKit
attribute [local go_sem ↓] yvc
attribute [local go_sem] yra yrb yrc yrd yre yrf
def g3 (a b d : Nat → Int) (j : Nat) : Int := if yab a b j < d j then d j else yab a b j
theorem ynx (g c : Nat) (a b d : Nat → Int) (w : World) (hg : g < w.heap.size) (ha : ∀ j, j < 6 → w.cell? ⟨g, j, none⟩ = some (.int .i64 (a j))) (hb : ∀ j, j < 6 → w.cell? ⟨g, 6 + j, none⟩ = some (.int .i64 (b j))) (hd : ∀ j, j < 6 → w.cell? ⟨g, 12 + j, none⟩ = some (.int .i64 (d j))) :
  Calls Tryz.prog 128 #[.slice (some ⟨g, 0, none⟩) 3 c] w fun e w' => e = .returned (.agg #[.int .i64 (g3 a b d 0), .int .i64 (g3 a b d 1), .int .i64 (g3 a b d 2), .int .i64 (g3 a b d 3), .int .i64 (g3 a b d 4), .int .i64 (g3 a b d 5)]) ∧ Below w.heap.size w w' := by
 have start := yac (Gr.start w)
 have HA := yac ha
 have HB := yac hb
 have HD := yac hd
 clear ha hb hd
 go_enter Tryz.func128, Tryz.ntmps128
 go_wp2
 go_loopw [10] (fun i wr => ∃ k : Nat, k ≤ 3 ∧ i = .int .i64 k ∧ Hid (Gr w wr (if k = 0 then zer else if k = 1 then g1 a else if k = 2 then yab a b else g3 a b d))) (fun i _ => 3 - (intOf i).toNat)
 case atStart => exact ⟨0, by omega, rfl, start⟩
 case round =>
  obtain ⟨k, hk, rfl, hG⟩ := hrel
  have hsz := hG.out.size
  match k, hk with
  |0, _ =>
   have hG1 : Hid (Gr w wr (zer)) := hG
   clear hG
   have q0 : wr.cell? ⟨g, 0, none⟩ = some (.int .i64 (a 0)) := (hG1.out.below.cell (p := ⟨g, 0, none⟩) hg).trans (HA.out 0 (by omega))
   have q1 : wr.cell? ⟨g, 1, none⟩ = some (.int .i64 (a 1)) := (hG1.out.below.cell (p := ⟨g, 1, none⟩) hg).trans (HA.out 1 (by omega))
   have q2 : wr.cell? ⟨g, 2, none⟩ = some (.int .i64 (a 2)) := (hG1.out.below.cell (p := ⟨g, 2, none⟩) hg).trans (HA.out 2 (by omega))
   have q3 : wr.cell? ⟨g, 3, none⟩ = some (.int .i64 (a 3)) := (hG1.out.below.cell (p := ⟨g, 3, none⟩) hg).trans (HA.out 3 (by omega))
   have q4 : wr.cell? ⟨g, 4, none⟩ = some (.int .i64 (a 4)) := (hG1.out.below.cell (p := ⟨g, 4, none⟩) hg).trans (HA.out 4 (by omega))
   have q5 : wr.cell? ⟨g, 5, none⟩ = some (.int .i64 (a 5)) := (hG1.out.below.cell (p := ⟨g, 5, none⟩) hg).trans (HA.out 5 (by omega))
   go_wp2
   clear q0 q1 q2 q3 q4 q5
   have hG2 : Hid (Gr w _ (yag (zer) a 0)) := (hG1.out.more ((Below.refl _ _).alloc (Nat.le_refl _) (.cells #[.int .i64 (a 0), .int .i64 (a 1), .int .i64 (a 2), .int .i64 (a 3), .int .i64 (a 4), .int .i64 (a 5)] 186))).congr (fun j _ => by simp [yag])
   go_loopw [15] (fun i wi => ∃ k : Nat, k ≤ 6 ∧ i = .int .i64 k ∧ Hid (Gr w wi (yag (zer) a k))) (fun i _ => 6 - (intOf i).toNat)
   case atStart => exact ⟨0, by omega, rfl, hG2⟩
   case round =>
    obtain ⟨k, hk, rfl, hI⟩ := hrel
    clear hG1 hG2 hsz
    match k, hk with
    |0, _ =>
     have c1 := hI.out.cur 0 (by omega)
     have f1 := hI.out.fcur 0
     have e1 : yag (zer) a 0 0 = (zer) 0 := by simp [yag]
     rw [e1] at c1
     have N : Hid (Gr w _ (yag (zer) a 1)) := (hI.out.set 0 (by omega) (if zer 0 < a 0 then a 0 else zer 0)).congr (fun j hj => by match j, hj with | 0, _ | 1, _ | 2, _ | 3, _ | 4, _ | 5, _ => simp [yag])
     clear e1
     go_wp2
     go_roundw
     case rel => exact ⟨1, by omega, by go_num, N⟩
     case measure => simp [intOf]
    |1, _ =>
     have c1 := hI.out.cur 1 (by omega)
     have f1 := hI.out.fcur 1
     have e1 : yag (zer) a 1 1 = (zer) 1 := by simp [yag]
     rw [e1] at c1
     have N : Hid (Gr w _ (yag (zer) a 2)) := (hI.out.set 1 (by omega) (if zer 1 < a 1 then a 1 else zer 1)).congr (fun j hj => by match j, hj with | 0, _ | 1, _ | 2, _ | 3, _ | 4, _ | 5, _ => simp [yag])
     clear e1
     go_wp2
     go_roundw
     case rel => exact ⟨2, by omega, by go_num, N⟩
     case measure => simp [intOf]
    |2, _ =>
     have c1 := hI.out.cur 2 (by omega)
     have f1 := hI.out.fcur 2
     have e1 : yag (zer) a 2 2 = (zer) 2 := by simp [yag]
     rw [e1] at c1
     have N : Hid (Gr w _ (yag (zer) a 3)) := (hI.out.set 2 (by omega) (if zer 2 < a 2 then a 2 else zer 2)).congr (fun j hj => by match j, hj with | 0, _ | 1, _ | 2, _ | 3, _ | 4, _ | 5, _ => simp [yag])
     clear e1
     go_wp2
     go_roundw
     case rel => exact ⟨3, by omega, by go_num, N⟩
     case measure => simp [intOf]
    |3, _ =>
     have c1 := hI.out.cur 3 (by omega)
     have f1 := hI.out.fcur 3
     have e1 : yag (zer) a 3 3 = (zer) 3 := by simp [yag]
     rw [e1] at c1
     have N : Hid (Gr w _ (yag (zer) a 4)) := (hI.out.set 3 (by omega) (if zer 3 < a 3 then a 3 else zer 3)).congr (fun j hj => by match j, hj with | 0, _ | 1, _ | 2, _ | 3, _ | 4, _ | 5, _ => simp [yag])
     clear e1
     go_wp2
     go_roundw
     case rel => exact ⟨4, by omega, by go_num, N⟩
     case measure => simp [intOf]
    |4, _ =>
     have c1 := hI.out.cur 4 (by omega)
     have f1 := hI.out.fcur 4
     have e1 : yag (zer) a 4 4 = (zer) 4 := by simp [yag]
     rw [e1] at c1
     have N : Hid (Gr w _ (yag (zer) a 5)) := (hI.out.set 4 (by omega) (if zer 4 < a 4 then a 4 else zer 4)).congr (fun j hj => by match j, hj with | 0, _ | 1, _ | 2, _ | 3, _ | 4, _ | 5, _ => simp [yag])
     clear e1
     go_wp2
     go_roundw
     case rel => exact ⟨5, by omega, by go_num, N⟩
     case measure => simp [intOf]
    |5, _ =>
     have c1 := hI.out.cur 5 (by omega)
     have f1 := hI.out.fcur 5
     have e1 : yag (zer) a 5 5 = (zer) 5 := by simp [yag]
     rw [e1] at c1
     have N : Hid (Gr w _ (yag (zer) a 6)) := (hI.out.set 5 (by omega) (if zer 5 < a 5 then a 5 else zer 5)).congr (fun j hj => by match j, hj with | 0, _ | 1, _ | 2, _ | 3, _ | 4, _ | 5, _ => simp [yag])
     clear e1
     go_wp2
     go_roundw
     case rel => exact ⟨6, by omega, by go_num, N⟩
     case measure => simp [intOf]
    |6, _ =>
     have N : Hid (Gr w wr (g1 a)) := hI.out.congr (fun j hj => by match j, hj with | 0, _ | 1, _ | 2, _ | 3, _ | 4, _ | 5, _ => simp [yag, yab, g1, g3])
     go_wp2
     go_roundw
     case rel => exact ⟨1, by omega, by go_num, N⟩
     case measure => simp [intOf]
  |1, _ =>
   have hG1 : Hid (Gr w wr (g1 a)) := hG
   clear hG
   have q0 : wr.cell? ⟨g, 6, none⟩ = some (.int .i64 (b 0)) := (hG1.out.below.cell (p := ⟨g, 6, none⟩) hg).trans (HB.out 0 (by omega))
   have q1 : wr.cell? ⟨g, 7, none⟩ = some (.int .i64 (b 1)) := (hG1.out.below.cell (p := ⟨g, 7, none⟩) hg).trans (HB.out 1 (by omega))
   have q2 : wr.cell? ⟨g, 8, none⟩ = some (.int .i64 (b 2)) := (hG1.out.below.cell (p := ⟨g, 8, none⟩) hg).trans (HB.out 2 (by omega))
   have q3 : wr.cell? ⟨g, 9, none⟩ = some (.int .i64 (b 3)) := (hG1.out.below.cell (p := ⟨g, 9, none⟩) hg).trans (HB.out 3 (by omega))
   have q4 : wr.cell? ⟨g, 10, none⟩ = some (.int .i64 (b 4)) := (hG1.out.below.cell (p := ⟨g, 10, none⟩) hg).trans (HB.out 4 (by omega))
   have q5 : wr.cell? ⟨g, 11, none⟩ = some (.int .i64 (b 5)) := (hG1.out.below.cell (p := ⟨g, 11, none⟩) hg).trans (HB.out 5 (by omega))
   go_wp2
   clear q0 q1 q2 q3 q4 q5
   have hG2 : Hid (Gr w _ (yag (g1 a) b 0)) := (hG1.out.more ((Below.refl _ _).alloc (Nat.le_refl _) (.cells #[.int .i64 (b 0), .int .i64 (b 1), .int .i64 (b 2), .int .i64 (b 3), .int .i64 (b 4), .int .i64 (b 5)] 186))).congr (fun j _ => by simp [yag])
   go_loopw [15] (fun i wi => ∃ k : Nat, k ≤ 6 ∧ i = .int .i64 k ∧ Hid (Gr w wi (yag (g1 a) b k))) (fun i _ => 6 - (intOf i).toNat)
   case atStart => exact ⟨0, by omega, rfl, hG2⟩
   case round =>
    obtain ⟨k, hk, rfl, hI⟩ := hrel
    clear hG1 hG2 hsz
    match k, hk with
    |0, _ =>
     have c1 := hI.out.cur 0 (by omega)
     have f1 := hI.out.fcur 0
     have e1 : yag (g1 a) b 0 0 = (g1 a) 0 := by simp [yag]
     rw [e1] at c1
     have N : Hid (Gr w _ (yag (g1 a) b 1)) := (hI.out.set 0 (by omega) (if g1 a 0 < b 0 then b 0 else g1 a 0)).congr (fun j hj => by match j, hj with | 0, _ | 1, _ | 2, _ | 3, _ | 4, _ | 5, _ => simp [yag])
     clear e1
     go_wp2
     go_roundw
     case rel => exact ⟨1, by omega, by go_num, N⟩
     case measure => simp [intOf]
    |1, _ =>
     have c1 := hI.out.cur 1 (by omega)
     have f1 := hI.out.fcur 1
     have e1 : yag (g1 a) b 1 1 = (g1 a) 1 := by simp [yag]
     rw [e1] at c1
     have N : Hid (Gr w _ (yag (g1 a) b 2)) := (hI.out.set 1 (by omega) (if g1 a 1 < b 1 then b 1 else g1 a 1)).congr (fun j hj => by match j, hj with | 0, _ | 1, _ | 2, _ | 3, _ | 4, _ | 5, _ => simp [yag])
     clear e1
     go_wp2
     go_roundw
     case rel => exact ⟨2, by omega, by go_num, N⟩
     case measure => simp [intOf]
    |2, _ =>
     have c1 := hI.out.cur 2 (by omega)
     have f1 := hI.out.fcur 2
     have e1 : yag (g1 a) b 2 2 = (g1 a) 2 := by simp [yag]
     rw [e1] at c1
     have N : Hid (Gr w _ (yag (g1 a) b 3)) := (hI.out.set 2 (by omega) (if g1 a 2 < b 2 then b 2 else g1 a 2)).congr (fun j hj => by match j, hj with | 0, _ | 1, _ | 2, _ | 3, _ | 4, _ | 5, _ => simp [yag])
     clear e1
     go_wp2
     go_roundw
     case rel => exact ⟨3, by omega, by go_num, N⟩
     case measure => simp [intOf]
    |3, _ =>
     have c1 := hI.out.cur 3 (by omega)
     have f1 := hI.out.fcur 3
     have e1 : yag (g1 a) b 3 3 = (g1 a) 3 := by simp [yag]
     rw [e1] at c1
     have N : Hid (Gr w _ (yag (g1 a) b 4)) := (hI.out.set 3 (by omega) (if g1 a 3 < b 3 then b 3 else g1 a 3)).congr (fun j hj => by match j, hj with | 0, _ | 1, _ | 2, _ | 3, _ | 4, _ | 5, _ => simp [yag])
     clear e1
     go_wp2
     go_roundw
     case rel => exact ⟨4, by omega, by go_num, N⟩
     case measure => simp [intOf]
    |4, _ =>
     have c1 := hI.out.cur 4 (by omega)
     have f1 := hI.out.fcur 4
     have e1 : yag (g1 a) b 4 4 = (g1 a) 4 := by simp [yag]
     rw [e1] at c1
     have N : Hid (Gr w _ (yag (g1 a) b 5)) := (hI.out.set 4 (by omega) (if g1 a 4 < b 4 then b 4 else g1 a 4)).congr (fun j hj => by match j, hj with | 0, _ | 1, _ | 2, _ | 3, _ | 4, _ | 5, _ => simp [yag])
     clear e1
     go_wp2
     go_roundw
     case rel => exact ⟨5, by omega, by go_num, N⟩
     case measure => simp [intOf]
    |5, _ =>
     have c1 := hI.out.cur 5 (by omega)
     have f1 := hI.out.fcur 5
     have e1 : yag (g1 a) b 5 5 = (g1 a) 5 := by simp [yag]
     rw [e1] at c1
     have N : Hid (Gr w _ (yag (g1 a) b 6)) := (hI.out.set 5 (by omega) (if g1 a 5 < b 5 then b 5 else g1 a 5)).congr (fun j hj => by match j, hj with | 0, _ | 1, _ | 2, _ | 3, _ | 4, _ | 5, _ => simp [yag])
     clear e1
     go_wp2
     go_roundw
     case rel => exact ⟨6, by omega, by go_num, N⟩
     case measure => simp [intOf]
    |6, _ =>
     have N : Hid (Gr w wr (yab a b)) := hI.out.congr (fun j hj => by match j, hj with | 0, _ | 1, _ | 2, _ | 3, _ | 4, _ | 5, _ => simp [yag, yab, g1, g3])
     go_wp2
     go_roundw
     case rel => exact ⟨2, by omega, by go_num, N⟩
     case measure => simp [intOf]
  |2, _ =>
   have hG1 : Hid (Gr w wr (yab a b)) := hG
   clear hG
   have q0 : wr.cell? ⟨g, 12, none⟩ = some (.int .i64 (d 0)) := (hG1.out.below.cell (p := ⟨g, 12, none⟩) hg).trans (HD.out 0 (by omega))
   have q1 : wr.cell? ⟨g, 13, none⟩ = some (.int .i64 (d 1)) := (hG1.out.below.cell (p := ⟨g, 13, none⟩) hg).trans (HD.out 1 (by omega))
   have q2 : wr.cell? ⟨g, 14, none⟩ = some (.int .i64 (d 2)) := (hG1.out.below.cell (p := ⟨g, 14, none⟩) hg).trans (HD.out 2 (by omega))
   have q3 : wr.cell? ⟨g, 15, none⟩ = some (.int .i64 (d 3)) := (hG1.out.below.cell (p := ⟨g, 15, none⟩) hg).trans (HD.out 3 (by omega))
   have q4 : wr.cell? ⟨g, 16, none⟩ = some (.int .i64 (d 4)) := (hG1.out.below.cell (p := ⟨g, 16, none⟩) hg).trans (HD.out 4 (by omega))
   have q5 : wr.cell? ⟨g, 17, none⟩ = some (.int .i64 (d 5)) := (hG1.out.below.cell (p := ⟨g, 17, none⟩) hg).trans (HD.out 5 (by omega))
   go_wp2
   clear q0 q1 q2 q3 q4 q5
   have hG2 : Hid (Gr w _ (yag (yab a b) d 0)) := (hG1.out.more ((Below.refl _ _).alloc (Nat.le_refl _) (.cells #[.int .i64 (d 0), .int .i64 (d 1), .int .i64 (d 2), .int .i64 (d 3), .int .i64 (d 4), .int .i64 (d 5)] 186))).congr (fun j _ => by simp [yag])
   go_loopw [15] (fun i wi => ∃ k : Nat, k ≤ 6 ∧ i = .int .i64 k ∧ Hid (Gr w wi (yag (yab a b) d k))) (fun i _ => 6 - (intOf i).toNat)
   case atStart => exact ⟨0, by omega, rfl, hG2⟩
   case round =>
    obtain ⟨k, hk, rfl, hI⟩ := hrel
    clear hG1 hG2 hsz
    match k, hk with
    |0, _ =>
     have c1 := hI.out.cur 0 (by omega)
     have f1 := hI.out.fcur 0
     have e1 : yag (yab a b) d 0 0 = (yab a b) 0 := by simp [yag]
     rw [e1] at c1
     have N : Hid (Gr w _ (yag (yab a b) d 1)) := (hI.out.set 0 (by omega) (if yab a b 0 < d 0 then d 0 else yab a b 0)).congr (fun j hj => by match j, hj with | 0, _ | 1, _ | 2, _ | 3, _ | 4, _ | 5, _ => simp [yag])
     clear e1
     go_wp2
     go_roundw
     case rel => exact ⟨1, by omega, by go_num, N⟩
     case measure => simp [intOf]
    |1, _ =>
     have c1 := hI.out.cur 1 (by omega)
     have f1 := hI.out.fcur 1
     have e1 : yag (yab a b) d 1 1 = (yab a b) 1 := by simp [yag]
     rw [e1] at c1
     have N : Hid (Gr w _ (yag (yab a b) d 2)) := (hI.out.set 1 (by omega) (if yab a b 1 < d 1 then d 1 else yab a b 1)).congr (fun j hj => by match j, hj with | 0, _ | 1, _ | 2, _ | 3, _ | 4, _ | 5, _ => simp [yag])
     clear e1
     go_wp2
     go_roundw
     case rel => exact ⟨2, by omega, by go_num, N⟩
     case measure => simp [intOf]
    |2, _ =>
     have c1 := hI.out.cur 2 (by omega)
     have f1 := hI.out.fcur 2
     have e1 : yag (yab a b) d 2 2 = (yab a b) 2 := by simp [yag]
     rw [e1] at c1
     have N : Hid (Gr w _ (yag (yab a b) d 3)) := (hI.out.set 2 (by omega) (if yab a b 2 < d 2 then d 2 else yab a b 2)).congr (fun j hj => by match j, hj with | 0, _ | 1, _ | 2, _ | 3, _ | 4, _ | 5, _ => simp [yag])
     clear e1
     go_wp2
     go_roundw
     case rel => exact ⟨3, by omega, by go_num, N⟩
     case measure => simp [intOf]
    |3, _ =>
     have c1 := hI.out.cur 3 (by omega)
     have f1 := hI.out.fcur 3
     have e1 : yag (yab a b) d 3 3 = (yab a b) 3 := by simp [yag]
     rw [e1] at c1
     have N : Hid (Gr w _ (yag (yab a b) d 4)) := (hI.out.set 3 (by omega) (if yab a b 3 < d 3 then d 3 else yab a b 3)).congr (fun j hj => by match j, hj with | 0, _ | 1, _ | 2, _ | 3, _ | 4, _ | 5, _ => simp [yag])
     clear e1
     go_wp2
     go_roundw
     case rel => exact ⟨4, by omega, by go_num, N⟩
     case measure => simp [intOf]
    |4, _ =>
     have c1 := hI.out.cur 4 (by omega)
     have f1 := hI.out.fcur 4
     have e1 : yag (yab a b) d 4 4 = (yab a b) 4 := by simp [yag]
     rw [e1] at c1
     have N : Hid (Gr w _ (yag (yab a b) d 5)) := (hI.out.set 4 (by omega) (if yab a b 4 < d 4 then d 4 else yab a b 4)).congr (fun j hj => by match j, hj with | 0, _ | 1, _ | 2, _ | 3, _ | 4, _ | 5, _ => simp [yag])
     clear e1
     go_wp2
     go_roundw
     case rel => exact ⟨5, by omega, by go_num, N⟩
     case measure => simp [intOf]
    |5, _ =>
     have c1 := hI.out.cur 5 (by omega)
     have f1 := hI.out.fcur 5
     have e1 : yag (yab a b) d 5 5 = (yab a b) 5 := by simp [yag]
     rw [e1] at c1
     have N : Hid (Gr w _ (yag (yab a b) d 6)) := (hI.out.set 5 (by omega) (if yab a b 5 < d 5 then d 5 else yab a b 5)).congr (fun j hj => by match j, hj with | 0, _ | 1, _ | 2, _ | 3, _ | 4, _ | 5, _ => simp [yag])
     clear e1
     go_wp2
     go_roundw
     case rel => exact ⟨6, by omega, by go_num, N⟩
     case measure => simp [intOf]
    |6, _ =>
     have N : Hid (Gr w wr (g3 a b d)) := hI.out.congr (fun j hj => by match j, hj with | 0, _ | 1, _ | 2, _ | 3, _ | 4, _ | 5, _ => simp [yag, yab, g1, g3])
     go_wp2
     go_roundw
     case rel => exact ⟨3, by omega, by go_num, N⟩
     case measure => simp [intOf]
  |3, _ =>
   have hG1 : Hid (Gr w wr (g3 a b d)) := hG
   clear hG
   have r0 := hG1.out.res 0 (by omega)
   have c0 := hG1.out.cur 0 (by omega)
   have f0 := hG1.out.fres 0
   have r1 := hG1.out.res 1 (by omega)
   have c1 := hG1.out.cur 1 (by omega)
   have f1 := hG1.out.fres 1
   have r2 := hG1.out.res 2 (by omega)
   have c2 := hG1.out.cur 2 (by omega)
   have f2 := hG1.out.fres 2
   have r3 := hG1.out.res 3 (by omega)
   have c3 := hG1.out.cur 3 (by omega)
   have f3 := hG1.out.fres 3
   have r4 := hG1.out.res 4 (by omega)
   have c4 := hG1.out.cur 4 (by omega)
   have f4 := hG1.out.fres 4
   have r5 := hG1.out.res 5 (by omega)
   have c5 := hG1.out.cur 5 (by omega)
   have f5 := hG1.out.fres 5
   go_wp2
   refine bodyPost_ret (v := .agg #[.int .i64 (g3 a b d 0), .int .i64 (g3 a b d 1), .int .i64 (g3 a b d 2), .int .i64 (g3 a b d 3), .int .i64 (g3 a b d 4), .int .i64 (g3 a b d 5)]) (by simp [results, Tryz.results128, go_sem, r0, r1, r2, r3, r4, r5]) rfl ⟨rfl, ?_⟩
   repeat' (first | exact hG1.out.below | refine Below.setCell ?_ (by simp <;> omega) _)
end Go.Proofs.YtaelaldmibgibaaGreatDoor
