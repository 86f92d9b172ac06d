/- The program's Within, hasChangesOf. What reading records needs: a replica of the program's with any records. A replica of the program's, whatever it knows: how it stands while a record is changed (Sg); each call carries it on. Two records of one path: what a pull does with them; the program's functions. -/
import Derived.Test.YtaelaldmibgibaaGreatRows
import Derived.WalkKit
import Derived.WalkSpells
import Derived.WalkLawsBesides
import Derived.Deep.AppendLies
import Derived.Deep.MidRow
import Derived.Deep.DrawnRows
import Derived.BigQuiet
import Derived.Deep.QuietTactic
import Derived.Deep.RegionWith
import Derived.Deep.RegionHeld3
import Derived.Test.YtaelaldmibgibaaGreatP02
import Derived.ChangeKeysEq
import Derived.Deep.RegionLaw
import Derived.Deep.DeepMust
import Derived.Maps.OwnSet
import Derived.Maps.OwnOps
import Derived.Maps.Range
import Derived.Maps.RangeWalk
import Derived.Sort.MapsRangeIn
import Derived.Sort.OwnSorted
import Derived.Lib.ItoaNum
import Derived.Lib.AtoiAll
import Derived.Lib.Strings
import Derived.Lib.Split
import Derived.Lib.LastIndexByte
import Derived.Test.YtaelaldmibgibaaGreatP01
import Derived.Test.YtaelaldmibgibaaGreatP03
import Derived.Test.YtaelaldmibgibaaGreatP18
import Derived.Test.YtaelaldmibgibaaGreatP04
import Derived.Test.YtaelaldmibgibaaGreatP19
import Derived.Test.YtaelaldmibgibaaGreatP22
import Derived.Test.YtaelaldmibgibaaGreatP20
import Derived.Test.YtaelaldmibgibaaGreatP23
import Derived.Test.YtaelaldmibgibaaGreatP24
import Derived.Test.YtaelaldmibgibaaGreatP25
import Derived.Test.YtaelaldmibgibaaGreatP26
import Derived.Test.YtaelaldmibgibaaGreatP27
import Derived.Test.YtaelaldmibgibaaGreatP33
import Derived.Test.YtaelaldmibgibaaGreatP28
import Derived.Test.YtaelaldmibgibaaGreatP29
import Derived.Test.YtaelaldmibgibaaGreatP30
import Derived.Test.YtaelaldmibgibaaGreatP31
import Derived.Test.YtaelaldmibgibaaGreatP32
import Derived.Test.YtaelaldmibgibaaGreatP34
import Derived.Laws.StructEq

set_option linter.unusedVariables false
set_option linter.unusedSimpArgs false
set_option linter.unusedSectionVars false

namespace Go.Proofs.YtaelaldmibgibaaGreat
open Go.RowKit Go.Lib
attribute [local go_sem ↓] eqTime
attribute [local go_sem] run_eqM

/-- two times in two new blocks -/
structure W2 (w V : World) (a b : Nat → Int) : Prop where
  a : ∀ j, j < 6 → V.cell? ⟨w.heap.size, j, none⟩ = some (.int .i64 (a j))
  b : ∀ j, j < 6 → V.cell? ⟨w.heap.size + 1, j, none⟩ = some (.int .i64 (b j))
  bel : Below w.heap.size w V
  size : w.heap.size + 2 ≤ V.heap.size
theorem W2.made (w : World) (a b : Nat → Int) : W2 w ((w.alloc (.cells #[.int .i64 (a 0), .int .i64 (a 1), .int .i64 (a 2), .int .i64 (a 3), .int .i64 (a 4), .int .i64 (a 5)] 108)).alloc (.cells #[.int .i64 (b 0), .int .i64 (b 1), .int .i64 (b 2), .int .i64 (b 3), .int .i64 (b 4), .int .i64 (b 5)] 108)) a b := by
  have hz : (w.alloc (.cells #[.int .i64 (a 0), .int .i64 (a 1), .int .i64 (a 2), .int .i64 (a 3), .int .i64 (a 4), .int .i64 (a 5)] 108)).heap.size = w.heap.size + 1 := by simp
  refine ⟨fun j hj => ?_, fun j hj => ?_, ((Below.refl _ _).alloc (Nat.le_refl _) _).alloc (by simp) _, by simp⟩
  · rw [World.cell?_alloc_old _ _ _ (by simp)]
    exact built6 w a _ j hj
  · rw [← hz]
    exact built6 _ b _ j hj
theorem W2.more {w V V' : World} {a b : Nat → Int} (h : W2 w V a b) (hb : Below V.heap.size V V') : W2 w V' a b :=
  ⟨fun j hj => (hb.cell (p := ⟨w.heap.size, j, none⟩) (by have := h.size; simp only; omega)).trans (h.a j hj), fun j hj => (hb.cell (p := ⟨w.heap.size + 1, j, none⟩) (by have := h.size; simp only; omega)).trans (h.b j hj), h.bel.trans (hb.mono h.bel.size), Nat.le_trans h.size hb.size⟩

set_option maxHeartbeats 600000 in
theorem Within_any (a b : Nat → Int) (w : World) :
    Calls Tryz.prog 136 #[.agg #[.int .i64 (a 0), .int .i64 (a 1), .int .i64 (a 2), .int .i64 (a 3), .int .i64 (a 4), .int .i64 (a 5)], .agg #[.int .i64 (b 0), .int .i64 (b 1), .int .i64 (b 2), .int .i64 (b 3), .int .i64 (b 4), .int .i64 (b 5)]] w fun e w' => e = .returned (.bool (leB a b)) ∧ Below w.heap.size w w' := by
  have GB := hide (fun V ty => Greatest_built V a b ty)
  have LE : Hid (leB a b = eqT (gboth a b) b) := rfl
  rw [LE.out]
  generalize gboth a b = c at *
  clear LE
  have S0 := hide (W2.made w a b)
  go_enter Tryz.func136, Tryz.ntmps136
  go_wp2_with fail
  generalize (w.alloc (.cells #[.int .i64 (a 0), .int .i64 (a 1), .int .i64 (a 2), .int .i64 (a 3), .int .i64 (a 4), .int .i64 (a 5)] 108)).alloc (.cells #[.int .i64 (b 0), .int .i64 (b 1), .int .i64 (b 2), .int .i64 (b 3), .int .i64 (b 4), .int .i64 (b 5)] 108) = V at *
  have a0 := S0.out.a 0 (by omega)
  have a1 := S0.out.a 1 (by omega)
  have a2 := S0.out.a 2 (by omega)
  have a3 := S0.out.a 3 (by omega)
  have a4 := S0.out.a 4 (by omega)
  have a5 := S0.out.a 5 (by omega)
  have b0 := S0.out.b 0 (by omega)
  have b1 := S0.out.b 1 (by omega)
  have b2 := S0.out.b 2 (by omega)
  have b3 := S0.out.b 3 (by omega)
  have b4 := S0.out.b 4 (by omega)
  have b5 := S0.out.b 5 (by omega)
  have hz := S0.out.size
  have hn0 : w.heap.size ≠ V.heap.size := by omega
  have hn1 : w.heap.size + 1 ≠ V.heap.size := by omega
  have d0 : ∀ o, (V.alloc o).cell? ⟨w.heap.size + 1, 0, none⟩ = some (.int .i64 (b 0)) := fun o => (World.cell?_alloc_old _ _ _ hn1).trans b0
  have d1 : ∀ o, (V.alloc o).cell? ⟨w.heap.size + 1, 1, none⟩ = some (.int .i64 (b 1)) := fun o => (World.cell?_alloc_old _ _ _ hn1).trans b1
  have d2 : ∀ o, (V.alloc o).cell? ⟨w.heap.size + 1, 2, none⟩ = some (.int .i64 (b 2)) := fun o => (World.cell?_alloc_old _ _ _ hn1).trans b2
  have d3 : ∀ o, (V.alloc o).cell? ⟨w.heap.size + 1, 3, none⟩ = some (.int .i64 (b 3)) := fun o => (World.cell?_alloc_old _ _ _ hn1).trans b3
  have d4 : ∀ o, (V.alloc o).cell? ⟨w.heap.size + 1, 4, none⟩ = some (.int .i64 (b 4)) := fun o => (World.cell?_alloc_old _ _ _ hn1).trans b4
  have d5 : ∀ o, (V.alloc o).cell? ⟨w.heap.size + 1, 5, none⟩ = some (.int .i64 (b 5)) := fun o => (World.cell?_alloc_old _ _ _ hn1).trans b5
  go_region_law (first
    | (go_simp; go_at_call 70; refine (GB.out V.drew _).mono ?_; rintro e w1 ⟨rfl, hb1⟩; have S1 := hide (S0.out.more ⟨hb1.os, hb1.tape, hb1.output, hb1.size, hb1.block⟩); clear hb1; have c0 := S1.out.b 0 (by omega); have c1 := S1.out.b 1 (by omega); have c2 := S1.out.b 2 (by omega); have c3 := S1.out.b 3 (by omega); have c4 := S1.out.b 4 (by omega); have c5 := S1.out.b 5 (by omega); dsimp only))
  all_goals
    go_wp2
    go_ret
    exact ⟨rfl, S1.out.bel⟩

set_option maxHeartbeats 600000 in
theorem hasChangesOf_any (R : Rec) (k : Nat → Int) (w : World) :
    Calls Tryz.prog 126 #[.agg #[.int .i64 (k 0), .int .i64 (k 1), .int .i64 (k 2), .int .i64 (k 3), .int .i64 (k 4), .int .i64 (k 5)], fileVal R] w fun e w' => e = .returned (.bool (leB R.ch k)) ∧ Below w.heap.size w w' := by
  unfold fileVal
  have WI := hide (fun V => Within_any R.ch k V)
  generalize leB R.ch k = z at *
  go_enter Tryz.func126, Tryz.ntmps126
  go_wp2_with (go_at_call 136; refine (WI.out _).mono ?_; rintro e w1 ⟨rfl, hb1⟩)
  go_ret
  exact ⟨rfl, (((Below.refl _ _).alloc (Nat.le_refl _) _).alloc (by simp) _).trans (hb1.mono (by simp; omega))⟩

end Go.Proofs.YtaelaldmibgibaaGreat

namespace Go.Proofs.YtaelaldmibgibaaGreat
open Go.RowKit Go.Lib Go.Maps

/-- a replica of the program's: its common time, its records -/
structure Rp (w : World) (rb s : Nat) (cm : Nat → Int) (mb : Nat) (E : Recs) : Prop where
  rep : RepAt w rb s cm mb
  own : w.ownsMap Tryz.prog 9 recElem mb E.length (datOf E)
  ris : RisingE E
section
variable {w w' : World} {rb s mb : Nat} {cm : Nat → Int} {E : Recs}
theorem Rp.keep (h : Rp w rb s cm mb E) (h1 : w'.heap[rb]? = w.heap[rb]?) (h2 : w'.heap[mb]? = w.heap[mb]?) : Rp w' rb s cm mb E := ⟨h.rep.keep h1, ownsMap_keep h.own h2, h.ris⟩
theorem Rp.below (h : Rp w rb s cm mb E) (hb : Below w.heap.size w w') : Rp w' rb s cm mb E := h.keep (hb.block _ h.rep.lt) (hb.block _ h.own.lt)
end
/-- keep of a record that must be kept -/
theorem keep_must (rb s : Nat) (cm : Nat → Int) (mb : Nat) (w : World) (E : Recs) (h : Rp w rb s cm mb E) (hl : E.length < maxLen) (p : ByteArray) (hp : p.size ≤ 1000000000000) (R : Rec) (h0 : 0 ≤ R.bn) (hk : (decide (0 < R.bn) || !eqT R.kn cm) = true) :
    Calls Tryz.prog 56 #[.pointer (some ⟨rb, 0, none⟩), .string p, recVal R] w fun e w' => e = .returned (.tuple #[]) ∧ Rp w' rb s cm mb (putE p R E) ∧ Fr (fun k => k = mb) w w' := by
  unfold recVal
  by_cases hb : 0 < R.bn
  · refine (keep_in rb s cm mb w h.rep E h.ris hl h.own p hp R hb).mono ?_
    rintro e w' ⟨rfl, h1, h2, h3⟩
    exact ⟨rfl, ⟨h1, h2, rising_put p R E h.ris⟩, h3⟩
  · refine (keep_kn rb s cm mb w h.rep E h.ris hl h.own p hp R (by omega) (by simpa [hb] using hk)).mono ?_
    rintro e w' ⟨rfl, h1, h2, h3⟩
    exact ⟨rfl, ⟨h1, h2, rising_put p R E h.ris⟩, h3⟩

end Go.Proofs.YtaelaldmibgibaaGreat

namespace Go.Proofs.YtaelaldmibgibaaGreat
open Go.RowKit Go.Maps

theorem below_more {w w1 w2 : World} {o : Obj} (h : Below w.heap.size w w1) (hb : Below (w1.alloc o).heap.size (w1.alloc o) w2) : Below w.heap.size w w2 :=
  (h.alloc h.size _).trans (hb.mono (by have := h.size; simp; omega))
/-- the birth's replica is one -/
def brOk (R : Rec) : Prop := ∃ r : Nat, r < 6 ∧ R.br = r
/-- a replica: its number, what it knows of all paths, its records -/
structure Rg (w : World) (rb s : Nat) (cm : Nat → Int) (mb : Nat) (E : Recs) : Prop where
  rep : RepAt w rb s cm mb
  own : w.ownsMap Tryz.prog 9 recElem mb E.length (datOf E)
  ris : RisingE E
  bn : ∀ x ∈ E, 0 ≤ x.2.bn ∧ brOk x.2
  len : E.length < 1000000
  c0 : 0 ≤ cm s
theorem Rg.keep {w w' : World} {rb s : Nat} {cm : Nat → Int} {mb : Nat} {E : Recs} (h : Rg w rb s cm mb E) (h1 : w'.heap[rb]? = w.heap[rb]?) (h2 : w'.heap[mb]? = w.heap[mb]?) : Rg w' rb s cm mb E :=
  ⟨h.rep.keep h1, ownsMap_keep h.own h2, h.ris, h.bn, h.len, h.c0⟩
theorem Rg.below {w w' : World} {rb s : Nat} {cm : Nat → Int} {mb : Nat} {E : Recs} (h : Rg w rb s cm mb E) (hb : Below w.heap.size w w') : Rg w' rb s cm mb E := h.keep (hb.block _ h.rep.lt) (hb.block _ h.own.lt)

/-- what recordOf answers -/
def recG (s : Nat) (cm : Nat → Int) : Option Rec → Rec
  | some R => ⟨R.text, R.br, R.bn, R.ch, upT R.kn s (cm s)⟩
  | none => ⟨⟨#[]⟩, 0, 0, fun _ => 0, cm⟩
theorem recordG_any (rb s : Nat) (cm : Nat → Int) (mb : Nat) (E : Recs) (w : World) (h : RepAt w rb s cm mb) (ho : w.ownsMap Tryz.prog 9 recElem mb E.length (datOf E)) (p : ByteArray) (hp : p.size ≤ maxLen) :
    Calls Tryz.prog 48 #[.pointer (some ⟨rb, 0, none⟩), .string p] w fun e w' => e = .returned (recVal (recG s cm (getE p E))) ∧ Below w.heap.size w w' := by
  cases hg : getE p E with
  | some R => exact recordOf_kept rb s cm mb w h E.length (datOf E) ho p hp R (by have := has_datOf p E; rw [hg] at this; exact this) (by have := atKey_datOf p E (recDat rec0); rw [hg] at this; exact this)
  | none => exact recordOf_new rb s cm mb w h E.length (datOf E) ho p hp (by have := has_datOf p E; rw [hg] at this; exact this) (by have := atKey_datOf p E (recDat rec0); rw [hg] at this; exact this)
theorem recG_ok {w : World} {rb s : Nat} {cm : Nat → Int} {mb : Nat} {E : Recs} (h : Rg w rb s cm mb E) (p : ByteArray) : 0 ≤ (recG s cm (getE p E)).bn ∧ brOk (recG s cm (getE p E)) := by
  cases hg : getE p E with
  | none => exact ⟨Int.le_refl 0, 0, by omega, rfl⟩
  | some R => exact h.bn _ (mem_getE hg)
/-- the records behind keep -/
def keepE (cm : Nat → Int) (p : ByteArray) (R : Rec) (E : Recs) : Recs := if (decide (0 < R.bn) || !eqT R.kn cm) = true then putE p R E else delE p E
theorem len_putE (E : Recs) (p : ByteArray) (R : Rec) : (putE p R E).length ≤ E.length + 1 := by
  unfold putE
  have : (E.filter (fun x => slt x.1 p)).length + (E.filter (fun x => slt p x.1)).length ≤ E.length := by
    induction E with
    | nil => simp
    | cons y E ih =>
      rw [List.filter_cons, List.filter_cons]
      cases h1 : slt y.1 p <;> cases h2 : slt p y.1 <;> simp <;> first | omega | skip
      exact absurd (slt_trans h1 h2) (by rw [slt_irrefl]; simp)
  simp only [List.length_append, List.length_cons]
  omega
theorem keepG_any (rb s : Nat) (cm : Nat → Int) (mb : Nat) (E : Recs) (w : World) (h : RepAt w rb s cm mb) (ho : w.ownsMap Tryz.prog 9 recElem mb E.length (datOf E)) (hE : RisingE E) (hl : E.length < maxLen) (p : ByteArray) (hp : p.size ≤ 1000000000000) (R : Rec) (h0 : 0 ≤ R.bn) :
    Calls Tryz.prog 56 #[.pointer (some ⟨rb, 0, none⟩), .string p, recVal R] w fun e w' => e = .returned (.tuple #[]) ∧ RepAt w' rb s cm mb ∧ w'.ownsMap Tryz.prog 9 recElem mb (keepE cm p R E).length (datOf (keepE cm p R E)) ∧ Fr (fun k => k = mb) w w' := by
  unfold keepE
  split
  · next hk =>
    refine (keep_must rb s cm mb w E ⟨h, ho, hE⟩ hl p hp R h0 hk).mono ?_
    rintro e w' ⟨rfl, h1, h2⟩
    exact ⟨rfl, h1.rep, h1.own, h2⟩
  · next hk =>
    simp only [Bool.or_eq_true, decide_eq_true_eq, not_or] at hk
    unfold recVal
    exact keep_out rb s cm mb w h E hE ho p hp R (by omega) (by simpa using hk.2)
theorem keepE_rising (cm : Nat → Int) (p : ByteArray) (R : Rec) (E : Recs) (h : RisingE E) : RisingE (keepE cm p R E) := by
  unfold keepE
  split
  · exact rising_put p R E h
  · exact rising_del p E h
theorem keepE_mem {cm : Nat → Int} {p : ByteArray} {R : Rec} {E : Recs} {x : ByteArray × Rec} (h : x ∈ keepE cm p R E) : x = (p, R) ∨ x ∈ E := by
  unfold keepE at h
  split at h
  · exact mem_putE h
  · exact .inr (mem_delE h)
theorem keepE_len (cm : Nat → Int) (p : ByteArray) (R : Rec) (E : Recs) : (keepE cm p R E).length ≤ E.length + 1 := by
  unfold keepE
  split
  · exact len_putE E p R
  · have := len_putE E p R
    unfold putE at this
    unfold delE
    simp only [List.length_append, List.length_cons] at *
    omega
end Go.Proofs.YtaelaldmibgibaaGreat

namespace Go.Proofs.YtaelaldmibgibaaGreat
open Go.RowKit

/-- is the birth known? -/
def hasB (R : Rec) (k : Nat → Int) : Bool := decide (R.bn ≤ k R.br.toNat)
set_option maxHeartbeats 600000 in
theorem hasBirthOf_any (R : Rec) (k : Nat → Int) (hR : brOk R) (w : World) :
    Calls Tryz.prog 98 #[.agg #[.int .i64 (k 0), .int .i64 (k 1), .int .i64 (k 2), .int .i64 (k 3), .int .i64 (k 4), .int .i64 (k 5)], fileVal R] w fun e w' => e = .returned (.bool (hasB R k)) ∧ Below w.heap.size w w' := by
  obtain ⟨r, hr, hb⟩ := hR
  unfold fileVal hasB
  rw [hb]
  have HA := hide (fun V => Has_any k r R.bn hr V)
  unfold timeVal at HA
  rw [show ((r : Int).toNat) = r from rfl]
  generalize decide (R.bn ≤ k r) = z at *
  go_enter Tryz.func98, Tryz.ntmps98
  go_wp2_with (go_at_call 124; refine (HA.out _).mono ?_; rintro e w1 ⟨rfl, hb1⟩)
  go_ret
  exact ⟨rfl, (((Below.refl _ _).alloc (Nat.le_refl _) _).alloc (by simp) _).trans (hb1.mono (by simp; omega))⟩

/-- one version? -/
def isVer (a b : Rec) : Bool := (a.br == b.br && a.bn == b.bn) && eqT a.ch b.ch
theorem run_eq_event (x y u v : Int) (w : World) : (Op.equalIn 10000 114 (.agg #[.int .i64 x, .int .i64 y]) (.agg #[.int .i64 u, .int .i64 v])).run Tryz.prog w = .ok (x == u && y == v) w := by
  go_simp
  by_cases h1 : x = u <;> by_cases h2 : y = v <;> simp [h1, h2]
def eqEv (x y : Value) : Sem Value := binOp .eql 114 x y
theorem eqEvent (x y : Value) : binOp .eql 114 x y = eqEv x y := rfl
theorem run_eqEv (x y u v : Int) (w : World) : (eqEv (.agg #[.int .i64 x, .int .i64 y]) (.agg #[.int .i64 u, .int .i64 v])).run Tryz.prog w = .ok (.bool (x == u && y == v)) w := by
  unfold eqEv
  rw [run_eql_struct, run_eq_event]
  rfl
attribute [local go_sem ↓] eqTime eqEvent
attribute [local go_sem] run_eqM run_eqEv
set_option maxHeartbeats 600000 in
theorem isVersion_any (a b : Rec) (w : World) :
    Calls Tryz.prog 125 #[fileVal a, fileVal b] w fun e w' => e = .returned (.bool (isVer a b)) ∧ Below w.heap.size w w' := by
  unfold fileVal isVer
  cases hd : (a.br == b.br && a.bn == b.bn)
  all_goals
    go_enter Tryz.func125, Tryz.ntmps125
    go_wp2
    go_ret
    exact ⟨rfl, ((Below.refl _ _).alloc (Nat.le_refl _) _).alloc (by simp) _⟩
end Go.Proofs.YtaelaldmibgibaaGreat
