/- The document's answer: spent, fresh, equal, files. Times of the program in memory: loads and stores of whole times; Alone, Greatest. The document's answer: place (of a path, which is spoken of from now on). What a net is, without memory: for each replica its count and its files, by rising paths; what the calls make of it. -/
import Derived.Test.YtaelaldmibgibaaGreatRows
import Derived.WalkKit
import Derived.WalkSpells
import Derived.WalkLawsBesides
import Derived.Deep.AppendLies
import Derived.Deep.MidRow
import Derived.Deep.RegionWith
import Derived.Deep.RegionHeld3
import Derived.Deep.DrawnRows
import Derived.BigQuiet
import Derived.Deep.QuietTactic
import Derived.Test.YtaelaldmibgibaaGreatP01
import Derived.Test.YtaelaldmibgibaaGreatP03

set_option linter.unusedVariables false
set_option linter.unusedSimpArgs false
set_option linter.unusedSectionVars false

namespace Go.Proofs.YtaelaldmibgibaaGreat
open Go.RowKit
attribute [local go_sem ↓] Go.wp_at_zero Go.wp_at_succ
/-- a store of a whole spot, kept from the walk's own way of storing -/
def stM (t : TypeId) (p v : Value) : Sem Unit := Instr.storeAt t p v

end Go.Proofs.YtaelaldmibgibaaGreat

namespace Go.Proofs.YtaelaldmibgibaaGreat
open Go.RowKit

theorem size_Time : (Tryz.prog.info? 108).map (·.size) = some 6 := by kernel_rfl
theorem stTime (p v : Value) : Instr.storeAt 108 p v = stM 108 p v := rfl
/-- the time of one replica alone -/
def one (r : Nat) (x : Int) : List Int := (List.replicate 6 0).set r x
set_option maxHeartbeats 400000 in
theorem Alone_0 (x : Int) (w : World) :
    Calls Tryz.prog 55 #[.agg #[.int .i64 0, .int .i64 x]] w fun e w' => e = .returned (.agg #[.int .i64 x, .int .i64 0, .int .i64 0, .int .i64 0, .int .i64 0, .int .i64 0]) ∧ Below w.heap.size w w' := by
  go_enter Tryz.func55, Tryz.ntmps55
  go_wp2
  refine bodyPost_ret (v := .agg #[.int .i64 x, .int .i64 0, .int .i64 0, .int .i64 0, .int .i64 0, .int .i64 0]) (by simp [results, Tryz.results55, go_sem]) rfl ⟨rfl, ?_⟩
  repeat' (first | exact Below.refl _ _ | refine Below.setCell ?_ (by simp <;> omega) _ | refine Below.alloc ?_ (by simp <;> omega) _ | refine Below.drew ?_)
set_option maxHeartbeats 400000 in
theorem Alone_1 (x : Int) (w : World) :
    Calls Tryz.prog 55 #[.agg #[.int .i64 1, .int .i64 x]] w fun e w' => e = .returned (.agg #[.int .i64 0, .int .i64 x, .int .i64 0, .int .i64 0, .int .i64 0, .int .i64 0]) ∧ Below w.heap.size w w' := by
  go_enter Tryz.func55, Tryz.ntmps55
  go_wp2
  refine bodyPost_ret (v := .agg #[.int .i64 0, .int .i64 x, .int .i64 0, .int .i64 0, .int .i64 0, .int .i64 0]) (by simp [results, Tryz.results55, go_sem]) rfl ⟨rfl, ?_⟩
  repeat' (first | exact Below.refl _ _ | refine Below.setCell ?_ (by simp <;> omega) _ | refine Below.alloc ?_ (by simp <;> omega) _ | refine Below.drew ?_)
set_option maxHeartbeats 400000 in
theorem Alone_2 (x : Int) (w : World) :
    Calls Tryz.prog 55 #[.agg #[.int .i64 2, .int .i64 x]] w fun e w' => e = .returned (.agg #[.int .i64 0, .int .i64 0, .int .i64 x, .int .i64 0, .int .i64 0, .int .i64 0]) ∧ Below w.heap.size w w' := by
  go_enter Tryz.func55, Tryz.ntmps55
  go_wp2
  refine bodyPost_ret (v := .agg #[.int .i64 0, .int .i64 0, .int .i64 x, .int .i64 0, .int .i64 0, .int .i64 0]) (by simp [results, Tryz.results55, go_sem]) rfl ⟨rfl, ?_⟩
  repeat' (first | exact Below.refl _ _ | refine Below.setCell ?_ (by simp <;> omega) _ | refine Below.alloc ?_ (by simp <;> omega) _ | refine Below.drew ?_)
set_option maxHeartbeats 400000 in
theorem Alone_3 (x : Int) (w : World) :
    Calls Tryz.prog 55 #[.agg #[.int .i64 3, .int .i64 x]] w fun e w' => e = .returned (.agg #[.int .i64 0, .int .i64 0, .int .i64 0, .int .i64 x, .int .i64 0, .int .i64 0]) ∧ Below w.heap.size w w' := by
  go_enter Tryz.func55, Tryz.ntmps55
  go_wp2
  refine bodyPost_ret (v := .agg #[.int .i64 0, .int .i64 0, .int .i64 0, .int .i64 x, .int .i64 0, .int .i64 0]) (by simp [results, Tryz.results55, go_sem]) rfl ⟨rfl, ?_⟩
  repeat' (first | exact Below.refl _ _ | refine Below.setCell ?_ (by simp <;> omega) _ | refine Below.alloc ?_ (by simp <;> omega) _ | refine Below.drew ?_)
set_option maxHeartbeats 400000 in
theorem Alone_4 (x : Int) (w : World) :
    Calls Tryz.prog 55 #[.agg #[.int .i64 4, .int .i64 x]] w fun e w' => e = .returned (.agg #[.int .i64 0, .int .i64 0, .int .i64 0, .int .i64 0, .int .i64 x, .int .i64 0]) ∧ Below w.heap.size w w' := by
  go_enter Tryz.func55, Tryz.ntmps55
  go_wp2
  refine bodyPost_ret (v := .agg #[.int .i64 0, .int .i64 0, .int .i64 0, .int .i64 0, .int .i64 x, .int .i64 0]) (by simp [results, Tryz.results55, go_sem]) rfl ⟨rfl, ?_⟩
  repeat' (first | exact Below.refl _ _ | refine Below.setCell ?_ (by simp <;> omega) _ | refine Below.alloc ?_ (by simp <;> omega) _ | refine Below.drew ?_)
set_option maxHeartbeats 400000 in
theorem Alone_5 (x : Int) (w : World) :
    Calls Tryz.prog 55 #[.agg #[.int .i64 5, .int .i64 x]] w fun e w' => e = .returned (.agg #[.int .i64 0, .int .i64 0, .int .i64 0, .int .i64 0, .int .i64 0, .int .i64 x]) ∧ Below w.heap.size w w' := by
  go_enter Tryz.func55, Tryz.ntmps55
  go_wp2
  refine bodyPost_ret (v := .agg #[.int .i64 0, .int .i64 0, .int .i64 0, .int .i64 0, .int .i64 0, .int .i64 x]) (by simp [results, Tryz.results55, go_sem]) rfl ⟨rfl, ?_⟩
  repeat' (first | exact Below.refl _ _ | refine Below.setCell ?_ (by simp <;> omega) _ | refine Below.alloc ?_ (by simp <;> omega) _ | refine Below.drew ?_)

theorem Alone_any (r : Nat) (x : Int) (w : World) (hr : r < 6) :
    Calls Tryz.prog 55 #[.agg #[.int .i64 r, .int .i64 x]] w fun e w' => e = .returned (.agg (ivs (one r x)).toArray) ∧ Below w.heap.size w w' := by
  match r, hr with
  | 0, _ => exact Alone_0 x w
  | 1, _ => exact Alone_1 x w
  | 2, _ => exact Alone_2 x w
  | 3, _ => exact Alone_3 x w
  | 4, _ => exact Alone_4 x w
  | 5, _ => exact Alone_5 x w

end Go.Proofs.YtaelaldmibgibaaGreat

namespace Go.Proofs.YtaelaldmibgibaaGreat
open Go.RowKit

/-- Go's '<' and '==' on strings -/
def slt (a b : ByteArray) : Bool := Op.bytesLess a.toList b.toList
def seq (a b : ByteArray) : Bool := a.toList == b.toList
theorem seq_iff (a b : ByteArray) : seq a b = true ↔ a = b := by
  unfold seq
  rw [beq_iff_eq, ByteArray.toList_eq, ByteArray.toList_eq]
  constructor
  · intro h
    cases a; cases b
    simp only [ByteArray.mk.injEq]
    exact Array.toList_inj.1 h
  · rintro rfl; rfl

end Go.Proofs.YtaelaldmibgibaaGreat

namespace Go.Proofs.YtaelaldmibgibaaGreat

theorem bl_irrefl (x : List UInt8) : Op.bytesLess x x = false := by
  induction x with
  | nil => rfl
  | cons a x ih => simp [Op.bytesLess, ih]
theorem bl_trans (x y z : List UInt8) (h : Op.bytesLess x y = true) (h' : Op.bytesLess y z = true) : Op.bytesLess x z = true := by
  induction x generalizing y z with
  | nil =>
    cases z with
    | nil => cases y <;> simp [Op.bytesLess] at h'
    | cons c z => rfl
  | cons a x ih =>
    cases y with
    | nil => simp [Op.bytesLess] at h
    | cons b y =>
      cases z with
      | nil => simp [Op.bytesLess] at h'
      | cons c z =>
        simp only [Op.bytesLess, Bool.or_eq_true, decide_eq_true_eq, Bool.and_eq_true, beq_iff_eq] at *
        rcases h with h | ⟨rfl, h⟩
        · rcases h' with h' | ⟨rfl, h'⟩
          · exact .inl (UInt8.lt_trans h h')
          · exact .inl h
        · rcases h' with h' | ⟨rfl, h'⟩
          · exact .inl h'
          · exact .inr ⟨rfl, ih y z h h'⟩
theorem bl_tri (x y : List UInt8) (h : Op.bytesLess x y = false) (h' : Op.bytesLess y x = false) : x = y := by
  induction x generalizing y with
  | nil =>
    cases y with
    | nil => rfl
    | cons b y => simp [Op.bytesLess] at h
  | cons a x ih =>
    cases y with
    | nil => simp [Op.bytesLess] at h'
    | cons b y =>
      simp only [Op.bytesLess, Bool.or_eq_false_iff, decide_eq_false_iff_not, Bool.and_eq_false_iff, beq_eq_false_iff_ne] at *
      have e : a = b := by
        apply UInt8.toNat_inj.1
        have h1 := h.1
        have h2 := h'.1
        rw [UInt8.lt_iff_toNat_lt] at h1 h2
        omega
      subst e
      rw [ih y (by simpa using h.2) (by simpa using h'.2)]

theorem slt_irrefl (a : ByteArray) : slt a a = false := bl_irrefl _
theorem slt_trans {a b c : ByteArray} (h : slt a b = true) (h' : slt b c = true) : slt a c = true := bl_trans _ _ _ h h'
theorem slt_asymm {a b : ByteArray} (h : slt a b = true) : slt b a = false := by
  cases e : slt b a with
  | false => rfl
  | true => rw [← slt_irrefl a]; exact (slt_trans h e).symm
theorem slt_tri {a b : ByteArray} (h : slt a b = false) (h' : slt b a = false) : a = b := by
  apply (seq_iff a b).1
  unfold seq
  rw [beq_iff_eq]
  exact bl_tri _ _ h h'
theorem slt_ne {a b : ByteArray} (h : slt a b = true) : a ≠ b := fun e => by rw [e, slt_irrefl] at h; cases h

abbrev Files := List (ByteArray × ByteArray)
/-- rising by the paths -/
def Rising (F : Files) : Prop := F.Pairwise (fun x y => slt x.1 y.1 = true)
def put (p t : ByteArray) (F : Files) : Files := F.filter (fun x => slt x.1 p) ++ (p, t) :: F.filter (fun x => slt p x.1)
def del (p : ByteArray) (F : Files) : Files := F.filter (fun x => slt x.1 p) ++ F.filter (fun x => slt p x.1)
def get (p : ByteArray) (F : Files) : Option ByteArray := (F.find? (fun x => seq x.1 p)).map (·.2)

theorem filter_all {α : Type} (f : α → Bool) (l : List α) (h : ∀ x ∈ l, f x = true) : l.filter f = l := List.filter_eq_self.2 h
theorem filter_none {α : Type} (f : α → Bool) (l : List α) (h : ∀ x ∈ l, f x = false) : l.filter f = [] := List.filter_eq_nil_iff.2 (fun x hx => by rw [h x hx]; simp)
/-- a net -/
structure Abs where
  n : Nat
  F : Nat → Files
  c : Nat → Int

def Abs.set (A : Abs) (r : Nat) (F : Files) (c : Int) : Abs := { A with F := fun q => if q = r then F else A.F q, c := fun q => if q = r then c else A.c q }
/-- is a replica asked wrongly? -/
def Abs.out (A : Abs) (r : Int) : Bool := decide (r < 0 ∨ (A.n : Int) ≤ r)

end Go.Proofs.YtaelaldmibgibaaGreat
