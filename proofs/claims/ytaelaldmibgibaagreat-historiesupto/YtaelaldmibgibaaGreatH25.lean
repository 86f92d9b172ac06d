/- The program's Within, hasChangesOf. What reading records needs: a replica of the program's with any records. A replica of the program's, whatever it knows: how it stands while a record is changed (Sg); each call carries it on. The program's net: pairs of replicas (one pair at a time), the two places of a path. A replica while a record is changed: each call of Write, Remove, PullPath and Resolve carries it on. A replica of the program's: Read, Write, Remove, whatever it knows. A replica of the program's: Remove, whatever it knows. The program's net, whatever its replicas know: its Write, Remove, Read. The program's net: Write, Remove, Read, of replicas that there are. Two records of one path: what a pull does with them; the program's functions. -/
import Derived.Test.YtaelaldmibgibaaGreatRows
import Derived.WalkKit
import Derived.WalkSpells
import Derived.WalkLawsBesides
import Derived.Deep.AppendLies
import Derived.Deep.MidRow
import Derived.Deep.DrawnRows
import Derived.BigQuiet
import Derived.Deep.QuietTactic
import Derived.Deep.RegionWith
import Derived.Deep.RegionHeld3
import Derived.Test.YtaelaldmibgibaaGreatH18
import Derived.ChangeKeysEq
import Derived.Deep.RegionLaw
import Derived.Deep.DeepMust
import Derived.Maps.OwnSet
import Derived.Maps.OwnOps
import Derived.Maps.Range
import Derived.Maps.RangeWalk
import Derived.Sort.MapsRangeIn
import Derived.Sort.OwnSorted
import Derived.Lib.ItoaNum
import Derived.Lib.AtoiAll
import Derived.Lib.Strings
import Derived.Lib.Split
import Derived.Lib.LastIndexByte
import Derived.Test.YtaelaldmibgibaaGreatH11
import Derived.Test.YtaelaldmibgibaaGreatH15
import Derived.Test.YtaelaldmibgibaaGreatH16
import Derived.Test.YtaelaldmibgibaaGreatH19
import Derived.Test.YtaelaldmibgibaaGreatH17
import Derived.Test.YtaelaldmibgibaaGreatH20
import Derived.Test.YtaelaldmibgibaaGreatH21
import Derived.Test.YtaelaldmibgibaaGreatH22
import Derived.Test.YtaelaldmibgibaaGreatH23
import Derived.Test.YtaelaldmibgibaaGreatH24
import Derived.Laws.StructEq
import Derived.Outline

set_option linter.unusedVariables false
set_option linter.unusedSimpArgs false
set_option linter.unusedSectionVars false
set_option maxHeartbeats 2000000
set_option maxRecDepth 100000

namespace Go.Proofs.YtaelaldmibgibaaGreat
open Go.RowKit Go.Lib
attribute [local go_sem ↓] eqTime
attribute [local go_sem] yot
structure W2 (w V : World) (a b : Nat → Int) : Prop where
 a : ∀ j, j < 6 → V.cell? ⟨w.heap.size, j, none⟩ = some (.int .i64 (a j))
 b : ∀ j, j < 6 → V.cell? ⟨w.heap.size + 1, j, none⟩ = some (.int .i64 (b j))
 bel : Below w.heap.size w V
 size : w.heap.size + 2 ≤ V.heap.size
theorem W2.made (w : World) (a b : Nat → Int) : W2 w ((w.alloc (.cells #[.int .i64 (a 0), .int .i64 (a 1), .int .i64 (a 2), .int .i64 (a 3), .int .i64 (a 4), .int .i64 (a 5)] 108)).alloc (.cells #[.int .i64 (b 0), .int .i64 (b 1), .int .i64 (b 2), .int .i64 (b 3), .int .i64 (b 4), .int .i64 (b 5)] 108)) a b := by
 have hz : (w.alloc (.cells #[.int .i64 (a 0), .int .i64 (a 1), .int .i64 (a 2), .int .i64 (a 3), .int .i64 (a 4), .int .i64 (a 5)] 108)).heap.size = w.heap.size + 1 := by simp
 refine ⟨fun j hj => ?_, fun j hj => ?_, ((Below.refl _ _).alloc (Nat.le_refl _) _).alloc (by simp) _, by simp⟩
 ·rw [World.cell?_alloc_old _ _ _ (by simp)]
  exact built6 w a _ j hj
 ·rw [← hz]
  exact built6 _ b _ j hj
theorem W2.more {w V V' : World} {a b : Nat → Int} (h : W2 w V a b) (hb : Below V.heap.size V V') : W2 w V' a b :=
 ⟨fun j hj => (hb.cell (p := ⟨w.heap.size, j, none⟩) (by have := h.size; simp only; omega)).trans (h.a j hj), fun j hj => (hb.cell (p := ⟨w.heap.size + 1, j, none⟩) (by have := h.size; simp only; omega)).trans (h.b j hj), h.bel.trans (hb.mono h.bel.size), Nat.le_trans h.size hb.size⟩
theorem Within_any (a b : Nat → Int) (w : World) :
  Calls Tryz.prog 136 #[.agg #[.int .i64 (a 0), .int .i64 (a 1), .int .i64 (a 2), .int .i64 (a 3), .int .i64 (a 4), .int .i64 (a 5)], .agg #[.int .i64 (b 0), .int .i64 (b 1), .int .i64 (b 2), .int .i64 (b 3), .int .i64 (b 4), .int .i64 (b 5)]] w fun e w' => e = .returned (.bool (leB a b)) ∧ Below w.heap.size w w' := by
 have GB := yab (fun V ty => ymd V a b ty)
 have LE : Hid (leB a b = eqT (yad a b) b) := rfl
 rw [LE.out]
 generalize yad a b = c at *
 clear LE
 have S0 := yab (W2.made w a b)
 go_enter Tryz.func136, Tryz.ntmps136
 go_wp2_with fail
 generalize (w.alloc (.cells #[.int .i64 (a 0), .int .i64 (a 1), .int .i64 (a 2), .int .i64 (a 3), .int .i64 (a 4), .int .i64 (a 5)] 108)).alloc (.cells #[.int .i64 (b 0), .int .i64 (b 1), .int .i64 (b 2), .int .i64 (b 3), .int .i64 (b 4), .int .i64 (b 5)] 108) = V at *
 have a0 := S0.out.a 0 (by omega)
 have a1 := S0.out.a 1 (by omega)
 have a2 := S0.out.a 2 (by omega)
 have a3 := S0.out.a 3 (by omega)
 have a4 := S0.out.a 4 (by omega)
 have a5 := S0.out.a 5 (by omega)
 have b0 := S0.out.b 0 (by omega)
 have b1 := S0.out.b 1 (by omega)
 have b2 := S0.out.b 2 (by omega)
 have b3 := S0.out.b 3 (by omega)
 have b4 := S0.out.b 4 (by omega)
 have b5 := S0.out.b 5 (by omega)
 have hz := S0.out.size
 have hn0 : w.heap.size ≠ V.heap.size := by omega
 have hn1 : w.heap.size + 1 ≠ V.heap.size := by omega
 have d0 : ∀ o, (V.alloc o).cell? ⟨w.heap.size + 1, 0, none⟩ = some (.int .i64 (b 0)) := fun o => (World.cell?_alloc_old _ _ _ hn1).trans b0
 have d1 : ∀ o, (V.alloc o).cell? ⟨w.heap.size + 1, 1, none⟩ = some (.int .i64 (b 1)) := fun o => (World.cell?_alloc_old _ _ _ hn1).trans b1
 have d2 : ∀ o, (V.alloc o).cell? ⟨w.heap.size + 1, 2, none⟩ = some (.int .i64 (b 2)) := fun o => (World.cell?_alloc_old _ _ _ hn1).trans b2
 have d3 : ∀ o, (V.alloc o).cell? ⟨w.heap.size + 1, 3, none⟩ = some (.int .i64 (b 3)) := fun o => (World.cell?_alloc_old _ _ _ hn1).trans b3
 have d4 : ∀ o, (V.alloc o).cell? ⟨w.heap.size + 1, 4, none⟩ = some (.int .i64 (b 4)) := fun o => (World.cell?_alloc_old _ _ _ hn1).trans b4
 have d5 : ∀ o, (V.alloc o).cell? ⟨w.heap.size + 1, 5, none⟩ = some (.int .i64 (b 5)) := fun o => (World.cell?_alloc_old _ _ _ hn1).trans b5
 go_region_law (first
  |(go_simp; go_at_call 70; refine (GB.out V.drew _).mono ?_; rintro e w1 ⟨rfl, hb1⟩; have S1 := yab (S0.out.more ⟨hb1.os, hb1.tape, hb1.output, hb1.size, hb1.block⟩); clear hb1; have c0 := S1.out.b 0 (by omega); have c1 := S1.out.b 1 (by omega); have c2 := S1.out.b 2 (by omega); have c3 := S1.out.b 3 (by omega); have c4 := S1.out.b 4 (by omega); have c5 := S1.out.b 5 (by omega); dsimp only))
 all_goals
  go_wp2
  go_ret
  exact ⟨rfl, S1.out.bel⟩
theorem ycx (R : Rec) (k : Nat → Int) (w : World) :
  Calls Tryz.prog 126 #[.agg #[.int .i64 (k 0), .int .i64 (k 1), .int .i64 (k 2), .int .i64 (k 3), .int .i64 (k 4), .int .i64 (k 5)], ybw R] w fun e w' => e = .returned (.bool (leB R.ch k)) ∧ Below w.heap.size w w' := by
 unfold ybw
 have WI := yab (fun V => Within_any R.ch k V)
 generalize leB R.ch k = z at *
 go_enter Tryz.func126, Tryz.ntmps126
 go_wp2_with (go_at_call 136; refine (WI.out _).mono ?_; rintro e w1 ⟨rfl, hb1⟩)
 go_ret
 exact ⟨rfl, (((Below.refl _ _).alloc (Nat.le_refl _) _).alloc (by simp) _).trans (hb1.mono (by simp; omega))⟩
end Go.Proofs.YtaelaldmibgibaaGreat

namespace Go.Proofs.YtaelaldmibgibaaGreat
open Go.RowKit Go.Lib Go.Maps
structure Rp (w : World) (rb s : Nat) (cm : Nat → Int) (mb : Nat) (E : yav) : Prop where
 rep : ybq w rb s cm mb
 own : w.ownsMap Tryz.prog 9 yau mb E.length (ycc E)
 ris : yay E
section
variable {w w' : World} {rb s mb : Nat} {cm : Nat → Int} {E : yav}
end
theorem keep_must (rb s : Nat) (cm : Nat → Int) (mb : Nat) (w : World) (E : yav) (h : Rp w rb s cm mb E) (hl : E.length < maxLen) (p : ByteArray) (hp : p.size ≤ 1000000000000) (R : Rec) (h0 : 0 ≤ R.bn) (hk : (decide (0 < R.bn) || !eqT R.kn cm) = true) :
  Calls Tryz.prog 56 #[.pointer (some ⟨rb, 0, none⟩), .string p, yag R] w fun e w' => e = .returned (.tuple #[]) ∧ Rp w' rb s cm mb (yql p R E) ∧ Fr (fun k => k = mb) w w' := by
 unfold yag
 by_cases hb : 0 < R.bn
 ·refine (keep_in rb s cm mb w h.rep E h.ris hl h.own p hp R hb).mono ?_
  rintro e w' ⟨rfl, h1, h2, h3⟩
  exact ⟨rfl, ⟨h1, h2, yjb p R E h.ris⟩, h3⟩
 ·refine (keep_kn rb s cm mb w h.rep E h.ris hl h.own p hp R (by omega) (by simpa [hb] using hk)).mono ?_
  rintro e w' ⟨rfl, h1, h2, h3⟩
  exact ⟨rfl, ⟨h1, h2, yjb p R E h.ris⟩, h3⟩
end Go.Proofs.YtaelaldmibgibaaGreat

namespace Go.Proofs.YtaelaldmibgibaaGreat
open Go.RowKit Go.Maps
theorem ymp {w w1 w2 : World} {o : Obj} (h : Below w.heap.size w w1) (hb : Below (w1.alloc o).heap.size (w1.alloc o) w2) : Below w.heap.size w w2 :=
 (h.alloc h.size _).trans (hb.mono (by have := h.size; simp; omega))
def yfb (R : Rec) : Prop := ∃ r : Nat, r < 6 ∧ R.br = r
structure Rg (w : World) (rb s : Nat) (cm : Nat → Int) (mb : Nat) (E : yav) : Prop where
 rep : ybq w rb s cm mb
 own : w.ownsMap Tryz.prog 9 yau mb E.length (ycc E)
 ris : yay E
 bn : ∀ x ∈ E, 0 ≤ x.2.bn ∧ yfb x.2
 len : E.length < 1000000
 c0 : 0 ≤ cm s
theorem Rg.keep {w w' : World} {rb s : Nat} {cm : Nat → Int} {mb : Nat} {E : yav} (h : Rg w rb s cm mb E) (h1 : w'.heap[rb]? = w.heap[rb]?) (h2 : w'.heap[mb]? = w.heap[mb]?) : Rg w' rb s cm mb E :=
 ⟨h.rep.keep h1, ybm h.own h2, h.ris, h.bn, h.len, h.c0⟩
theorem Rg.below {w w' : World} {rb s : Nat} {cm : Nat → Int} {mb : Nat} {E : yav} (h : Rg w rb s cm mb E) (hb : Below w.heap.size w w') : Rg w' rb s cm mb E := h.keep (hb.block _ h.rep.lt) (hb.block _ h.own.lt)
def ybp (s : Nat) (cm : Nat → Int) : Option Rec → Rec
 |some R => ⟨R.text, R.br, R.bn, R.ch, upT R.kn s (cm s)⟩
 |none => ⟨⟨#[]⟩, 0, 0, fun _ => 0, cm⟩
theorem yal (rb s : Nat) (cm : Nat → Int) (mb : Nat) (E : yav) (w : World) (h : ybq w rb s cm mb) (ho : w.ownsMap Tryz.prog 9 yau mb E.length (ycc E)) (p : ByteArray) (hp : p.size ≤ maxLen) :
  Calls Tryz.prog 48 #[.pointer (some ⟨rb, 0, none⟩), .string p] w fun e w' => e = .returned (yag (ybp s cm (ybb p E))) ∧ Below w.heap.size w w' := by
 cases hg : ybb p E with
 |some R => exact yop rb s cm mb w h E.length (ycc E) ho p hp R (by have := yid p E; rw [hg] at this; exact this) (by have := yfo p E (ycv rec0); rw [hg] at this; exact this)
 |none => exact yqn rb s cm mb w h E.length (ycc E) ho p hp (by have := yid p E; rw [hg] at this; exact this) (by have := yfo p E (ycv rec0); rw [hg] at this; exact this)
theorem ybi {w : World} {rb s : Nat} {cm : Nat → Int} {mb : Nat} {E : yav} (h : Rg w rb s cm mb E) (p : ByteArray) : 0 ≤ (ybp s cm (ybb p E)).bn ∧ yfb (ybp s cm (ybb p E)) := by
 cases hg : ybb p E with
 |none => exact ⟨Int.le_refl 0, 0, by omega, rfl⟩
 |some R => exact h.bn _ (yeb hg)
def ybl (cm : Nat → Int) (p : ByteArray) (R : Rec) (E : yav) : yav := if (decide (0 < R.bn) || !eqT R.kn cm) = true then yql p R E else delE p E
theorem len_putE (E : yav) (p : ByteArray) (R : Rec) : (yql p R E).length ≤ E.length + 1 := by
 unfold yql
 have : (E.filter (fun x => slt x.1 p)).length + (E.filter (fun x => slt p x.1)).length ≤ E.length := by
  induction E with
  |nil => simp
  |cons y E ih =>
   rw [List.filter_cons, List.filter_cons]
   cases h1 : slt y.1 p <;> cases h2 : slt p y.1 <;> simp <;> first | omega | skip
   exact absurd (yfh h1 h2) (by rw [ybt]; simp)
 simp only [List.length_append, List.length_cons]
 omega
theorem yif (rb s : Nat) (cm : Nat → Int) (mb : Nat) (E : yav) (w : World) (h : ybq w rb s cm mb) (ho : w.ownsMap Tryz.prog 9 yau mb E.length (ycc E)) (hE : yay E) (hl : E.length < maxLen) (p : ByteArray) (hp : p.size ≤ 1000000000000) (R : Rec) (h0 : 0 ≤ R.bn) :
  Calls Tryz.prog 56 #[.pointer (some ⟨rb, 0, none⟩), .string p, yag R] w fun e w' => e = .returned (.tuple #[]) ∧ ybq w' rb s cm mb ∧ w'.ownsMap Tryz.prog 9 yau mb (ybl cm p R E).length (ycc (ybl cm p R E)) ∧ Fr (fun k => k = mb) w w' := by
 unfold ybl
 split
 ·next hk =>
  refine (keep_must rb s cm mb w E ⟨h, ho, hE⟩ hl p hp R h0 hk).mono ?_
  rintro e w' ⟨rfl, h1, h2⟩
  exact ⟨rfl, h1.rep, h1.own, h2⟩
 ·next hk =>
  simp only [Bool.or_eq_true, decide_eq_true_eq, not_or] at hk
  unfold yag
  exact keep_out rb s cm mb w h E hE ho p hp R (by omega) (by simpa using hk.2)
theorem ybx (cm : Nat → Int) (p : ByteArray) (R : Rec) (E : yav) (h : yay E) : yay (ybl cm p R E) := by
 unfold ybl
 split
 ·exact yjb p R E h
 ·exact rising_del p E h
theorem yie {cm : Nat → Int} {p : ByteArray} {R : Rec} {E : yav} {x : ByteArray × Rec} (h : x ∈ ybl cm p R E) : x = (p, R) ∨ x ∈ E := by
 unfold ybl at h
 split at h
 ·exact mem_putE h
 ·exact .inr (mem_delE h)
theorem ygm (cm : Nat → Int) (p : ByteArray) (R : Rec) (E : yav) : (ybl cm p R E).length ≤ E.length + 1 := by
 unfold ybl
 split
 ·exact len_putE E p R
 ·have := len_putE E p R
  unfold yql at this
  unfold delE
  simp only [List.length_append, List.length_cons] at *
  omega
open Go.RowKit
theorem ykm.below {w w' : World} {nb n pb : Nat} {rbs : List Nat} (h : ykm w nb n pb rbs) (hn : nb < w.heap.size) (hp : pb < w.heap.size) (hb : Below w.heap.size w w') : ykm w' nb n pb rbs := by
 obtain ⟨cap, hc⟩ := h.blk
 exact ⟨⟨cap, by rw [hb.block nb hn]; exact hc⟩, h.len, fun r b hr => (hb.cell (p := ⟨pb, r, none⟩) hp).trans (h.row r b hr), h.n6⟩
def okP (n : Nat) (a b : Int) : Bool := (decide (0 ≤ a ∧ a < n) && decide (0 ≤ b ∧ b < n)) && !(a == b)
theorem yer (nb n pb : Nat) (rbs : List Nat) (g cap : Nat) (a b : Int) (w : World) (h : ykm w nb n pb rbs) (hn : nb < w.heap.size) (hp : pb < w.heap.size) (hg : g < w.heap.size) (g0 : w.cell? ⟨g, 0, none⟩ = some (.int .i64 a)) (g1 : w.cell? ⟨g, 1, none⟩ = some (.int .i64 b)) :
  Calls Tryz.prog 62 #[.pointer (some ⟨nb, 0, none⟩), .slice (some ⟨g, 0, none⟩) 1 cap] w fun e w' => e = .returned (.bool (okP n a b)) ∧ Below w.heap.size w w' := by
 have HA : Hid (∀ V r, Below w.heap.size w V → Calls Tryz.prog 46 #[.pointer (some ⟨nb, 0, none⟩), .int .i64 r] V fun e w' => e = .returned (.bool (decide (0 ≤ r ∧ r < n))) ∧ w' = V) := fun V r hb => yoa nb n pb rbs r V (h.below hn hp hb)
 have BB : Hid (∀ o, Below w.heap.size w (w.alloc o)) := fun o => (Below.refl _ _).alloc (Nat.le_refl _) o
 unfold okP
 clear h hn hp
 generalize hz1 : decide (0 ≤ a ∧ a < n) = z1
 generalize hz2 : decide (0 ≤ b ∧ b < n) = z2
 generalize hz3 : (a == b) = z3
 obtain ⟨zz, hzz⟩ : ∃ zz, zz = ((z1 && z2) && !z3) := ⟨_, rfl⟩
 rw [← hzz]
 cases z1 <;> cases z2 <;> cases z3
 all_goals
  have HZ := yab hzz
  clear hzz
  go_enter Tryz.func62, Tryz.ntmps62
  go_wp2
  go_loopw [9] (fun i wi => (i = .int .i64 0 ∧ wi = w) ∨ (i = .int .i64 1 ∧ Hid (zz = true) ∧ Hid (Below w.heap.size w wi))) (fun i _ => 1 - (intOf i).toNat)
  case atStart => exact .inl ⟨rfl, rfl⟩
  case round =>
   rcases hrel with ⟨rfl, rfl⟩ | ⟨rfl, hzt, hb⟩
   ·go_wp2_with (go_at_call 46; refine (HA.out _ _ (BB.out _)).mono ?_; rintro e wn ⟨rfl, rfl⟩)
    first
     |(go_ret; exact ⟨by rw [HZ.out]; rfl, BB.out _⟩)
     |exact ⟨.inr ⟨rfl, HZ.out, BB.out _⟩, by simp [intOf]⟩
   ·go_wp2
    go_ret
    exact ⟨by rw [hzt.out]; rfl, hb.out⟩
theorem ypi (g cap : Nat) (a b : Nat) (ha : a < 6) (hb : b < 6) (w : World) (hg : g < w.heap.size) (g0 : w.cell? ⟨g, 0, none⟩ = some (.int .i64 a)) (g1 : w.cell? ⟨g, 1, none⟩ = some (.int .i64 b)) :
  Calls Tryz.prog 63 #[.slice (some ⟨g, 0, none⟩) 1 cap] w fun e w' => e = .returned (.bool true) ∧ Below w.heap.size w w' := by
 have la : ∀ h, ([Value.bool false, Value.bool false, Value.bool false, Value.bool false, Value.bool false, Value.bool false])[a]'h = .bool false := by
  intro h
  match a, ha with
  |0, _ | 1, _ | 2, _ | 3, _ | 4, _ | 5, _ => rfl
 have lb : ∀ h, ([Value.bool false, Value.bool false, Value.bool false, Value.bool false, Value.bool false, Value.bool false])[b]'h = .bool false := by
  intro h
  match b, hb with
  |0, _ | 1, _ | 2, _ | 3, _ | 4, _ | 5, _ => rfl
 have BB : Hid (∀ o o', Below w.heap.size w ((w.alloc o).alloc o').drew) := fun o o' => ((((Below.refl _ _).alloc (Nat.le_refl _) o)).alloc (by simp) o').drew
 go_enter Tryz.func63, Tryz.ntmps63
 go_wp2
 go_loopw [8] (fun i wi => (i = .int .i64 0 ∧ wi = w.alloc (.cells #[.bool false, .bool false, .bool false, .bool false, .bool false, .bool false] 150)) ∨ (i = .int .i64 1 ∧ Hid (Below w.heap.size w wi))) (fun i _ => 1 - (intOf i).toNat)
 case atStart => exact .inl ⟨rfl, rfl⟩
 case round =>
  rcases hrel with ⟨rfl, rfl⟩ | ⟨rfl, hb⟩
  ·go_wp2
   go_region
   all_goals
    go_wp2
    refine ⟨.inr ⟨rfl, ?_⟩, by simp [intOf]⟩
    exact BB.out _ _
  ·go_wp2
   go_ret
   exact ⟨rfl, hb.out⟩
structure Sg (w V : World) (rb s mb b : Nat) (cm : Nat → Int) (E : yav) (R : Rec) (eb : Nat) (eo : Option Obj) : Prop where
 rc : yas V b R
 rep : ybq V rb s cm mb
 own : V.ownsMap Tryz.prog 9 yau mb E.length (ycc E)
 fr : Fr (fun k => k = rb ∨ k = mb) w V
 rlt : rb < w.heap.size
 mlt : mb < w.heap.size
 bge : w.heap.size ≤ b
 ev : ∀ o, eo = some o → V.heap[eb]? = some o ∧ eb ≠ b ∧ w.heap.size ≤ eb
section
variable {w V V' : World} {rb s mb b : Nat} {cm : Nat → Int} {E : yav} {R R' : Rec} {eb : Nat} {eo : Option Obj}
theorem Sg.elt (S : Sg w V rb s mb b cm E R eb eo) (o : Obj) (ho : eo = some o) : eb < V.heap.size := (Array.getElem?_eq_some_iff.1 (S.ev o ho).1).1
theorem Sg.below (S : Sg w V rb s mb b cm E R eb eo) (hb : Below V.heap.size V V') : Sg w V' rb s mb b cm E R eb eo :=
 ⟨S.rc.more hb, S.rep.keep (hb.block _ S.rep.lt), ybm S.own (hb.block _ S.own.lt), S.fr.trans (Fr.of_below hb), S.rlt, S.mlt, S.bge, fun o ho => ⟨by rw [hb.block _ (S.elt o ho)]; exact (S.ev o ho).1, (S.ev o ho).2⟩⟩
theorem Sg.drewN (S : Sg w V rb s mb b cm E R eb eo) (k : Nat) : Sg w (V.drewN k) rb s mb b cm E R eb eo := S.below ⟨rfl, rfl, rfl, Nat.le_refl _, fun _ _ => rfl⟩
theorem Sg.onRec (S : Sg w V rb s mb b cm E R eb eo) (hf : Fr (fun k => k = b) V V') (hr : yas V' b R') : Sg w V' rb s mb b cm E R' eb eo := by
 have h1 : rb ≠ b := by have := S.rlt; have := S.bge; omega
 have h2 : mb ≠ b := by have := S.mlt; have := S.bge; omega
 refine ⟨hr, S.rep.keep (hf.block _ S.rep.lt h1), ybm S.own (hf.block _ S.own.lt h2), S.fr.trans' hf (fun i hi e => by have := S.bge; omega), S.rlt, S.mlt, S.bge, fun o ho => ?_⟩
 obtain ⟨e1, e2, e3⟩ := S.ev o ho
 exact ⟨by rw [hf.block _ (S.elt o ho) e2]; exact e1, e2, e3⟩
theorem Sg.alloc_ev (S : Sg w V rb s mb b cm E R eb eo) (o : Obj) : Sg w (V.alloc o) rb s mb b cm E R V.heap.size (some o) := by
 have hb : Below V.heap.size V (V.alloc o) := (Below.refl _ _).alloc (Nat.le_refl _) o
 refine ⟨S.rc.more hb, S.rep.keep (hb.block _ S.rep.lt), ybm S.own (hb.block _ S.own.lt), S.fr.trans (Fr.of_below hb), S.rlt, S.mlt, S.bge, fun o' ho => ?_⟩
 cases ho
 exact ⟨heap_alloc_new _ _, by have := S.rc.lt; omega, S.fr.size⟩
theorem Sg.start {w1 : World} (h : Rg w rb s cm mb E) (hb : Below w.heap.size w w1) (R : Rec) :
  Sg w (w1.alloc (.cells #[.string R.text, .int .i64 R.br, .int .i64 R.bn, .int .i64 (R.ch 0), .int .i64 (R.ch 1), .int .i64 (R.ch 2), .int .i64 (R.ch 3), .int .i64 (R.ch 4), .int .i64 (R.ch 5), .int .i64 (R.kn 0), .int .i64 (R.kn 1), .int .i64 (R.kn 2), .int .i64 (R.kn 3), .int .i64 (R.kn 4), .int .i64 (R.kn 5)] 120)) rb s mb w1.heap.size cm E R 0 none := by
 have h1 := h.below hb
 have hz := hb.size
 exact ⟨⟨heap_alloc_new _ _⟩, h1.rep.keep (Below.heap_alloc _ _ _ h1.rep.lt), ybm h1.own (Below.heap_alloc _ _ _ h1.own.lt), (Fr.of_below hb).alloc _, h.rep.lt, h.own.lt, hz, fun o ho => by cases ho⟩
theorem Sg.full (S : Sg w V rb s mb b cm E R eb eo) : Calls Tryz.prog 49 #[.pointer (some ⟨rb, 0, none⟩)] V fun e w' => e = .returned (.bool (decide (1000000000 ≤ cm s))) ∧ Sg w w' rb s mb b cm E R eb eo := by
 refine (ygh rb s cm mb V S.rep).mono ?_
 rintro e w' ⟨rfl, nq, rfl⟩
 exact ⟨rfl, S.drewN nq⟩
theorem Sg.there (S : Sg w V rb s mb b cm E R eb eo) : Calls Tryz.prog 60 #[.agg #[.string R.text, .int .i64 R.br, .int .i64 R.bn, .int .i64 (R.ch 0), .int .i64 (R.ch 1), .int .i64 (R.ch 2), .int .i64 (R.ch 3), .int .i64 (R.ch 4), .int .i64 (R.ch 5)]] V fun e w' => e = .returned (.bool (decide (0 < R.bn))) ∧ Sg w w' rb s mb b cm E R eb eo := by
 refine (yaz _ _ _ _ _ _ _ _ _ V).mono ?_
 rintro e w' ⟨rfl, hb⟩
 exact ⟨rfl, S.below hb⟩
theorem Sg.files (S : Sg w V rb s mb b cm E R eb eo) (h : Rg w rb s cm mb E) : Calls Tryz.prog 69 #[.pointer (some ⟨rb, 0, none⟩)] V fun e w' => e = .returned (.int .i64 (yck E).length) ∧ Sg w w' rb s mb b cm E R eb eo := by
 refine (ygw rb s cm mb V S.rep E h.ris (by have := h.len; omega) S.own).mono ?_
 rintro e w' ⟨rfl, hb⟩
 exact ⟨rfl, S.below hb⟩
theorem Sg.next (S : Sg w V rb s mb b cm E R eb eo) (h0 : 0 ≤ cm s) (hc : cm s < 1000000000) : Calls Tryz.prog 51 #[.pointer (some ⟨rb, 0, none⟩)] V fun e w' => e = .returned (.agg #[.int .i64 s, .int .i64 (cm s + 1)]) ∧ Sg w w' rb s mb b (yad cm (tf s (cm s + 1))) E R eb eo := by
 refine (next_any rb s cm mb V S.rep h0 hc).mono ?_
 rintro e w' ⟨rfl, hr, hf⟩
 have h1 : b ≠ rb := by have := S.rlt; have := S.bge; omega
 have h2 := (S.rep.ne S.own).symm
 refine ⟨rfl, S.rc.keep (hf.block _ S.rc.lt h1), hr, ybm S.own (hf.block _ S.own.lt h2), S.fr.trans (hf.mono (fun k _ e => .inl e)), S.rlt, S.mlt, S.bge, fun o ho => ?_⟩
 obtain ⟨e1, e2, e3⟩ := S.ev o ho
 have := S.rlt
 exact ⟨by rw [hf.block _ (S.elt o ho) (by omega)]; exact e1, e2, e3⟩
theorem Sg.clone (S : Sg w V rb s mb b cm E R eb eo) (t : ByteArray) (ht : t.size ≤ 1000000000000) : Calls Tryz.prog 53 #[.string t] V fun e w' => e = .returned (.string t) ∧ Sg w w' rb s mb b cm E R eb eo := by
 refine (ykt t V ht).mono ?_
 rintro e w' ⟨rfl, hb⟩
 exact ⟨rfl, S.below hb⟩
theorem Sg.write (S : Sg w V rb s mb b cm E R eb eo) (x : Int) (t : ByteArray) (hbn : 0 ≤ R.bn) : Calls Tryz.prog 52 #[.pointer (some ⟨b, 0, none⟩), .string t, .agg #[.int .i64 s, .int .i64 x]] V fun e w' => e = .returned (.tuple #[]) ∧ Sg w w' rb s mb b cm E (ydg s x t R) eb eo := by
 refine (write_rec b s x t R S.rep.hs V S.rc hbn).mono ?_
 rintro e w' ⟨rfl, hr, hf⟩
 exact ⟨rfl, S.onRec hf hr⟩
theorem Sg.remove (S : Sg w V rb s mb b cm E R eb eo) : Calls Tryz.prog 61 #[.pointer (some ⟨b, 0, none⟩)] V fun e w' => e = .returned (.tuple #[]) ∧ Sg w w' rb s mb b cm E ⟨⟨#[]⟩, 0, 0, fun _ => 0, R.kn⟩ eb eo := by
 refine (yne b R V S.rc).mono ?_
 rintro e w' ⟨rfl, hr, hf⟩
 exact ⟨rfl, S.onRec hf hr⟩
theorem Sg.alone (S : Sg w V rb s mb b cm E R eb eo) (x : Int) : Calls Tryz.prog 55 #[.agg #[.int .i64 s, .int .i64 x]] V fun e w' => e = .returned (.agg #[.int .i64 (tf s x 0), .int .i64 (tf s x 1), .int .i64 (tf s x 2), .int .i64 (tf s x 3), .int .i64 (tf s x 4), .int .i64 (tf s x 5)]) ∧ Sg w w' rb s mb b cm E R eb eo := by
 refine (ygt s x V S.rep.hs).mono ?_
 rintro e w' ⟨rfl, hb⟩
 exact ⟨rfl, S.below hb⟩
theorem Sg.hear (S : Sg w V rb s mb b cm E R eb eo) (u : Nat → Int) (ty : TypeId) : Calls Tryz.prog 54 #[.pointer (some ⟨b, 9, none⟩), .slice (some ⟨V.heap.size, 0, none⟩) 1 1] (V.alloc (.cells #[.int .i64 (u 0), .int .i64 (u 1), .int .i64 (u 2), .int .i64 (u 3), .int .i64 (u 4), .int .i64 (u 5)] ty)) fun e w' => e = .returned (.tuple #[]) ∧ Sg w w' rb s mb b cm E ⟨R.text, R.br, R.bn, R.ch, yad R.kn u⟩ eb eo := by
 have S' := S.below ((Below.refl _ _).alloc (Nat.le_refl _) (.cells #[.int .i64 (u 0), .int .i64 (u 1), .int .i64 (u 2), .int .i64 (u 3), .int .i64 (u 4), .int .i64 (u 5)] ty))
 refine (hear_rec b V.heap.size 1 u R _ S'.rc (by simp) (built6 V u ty)).mono ?_
 rintro e w' ⟨rfl, hr, hf⟩
 exact ⟨rfl, S'.onRec hf hr⟩
theorem Sg.room (S : Sg w V rb s mb b cm E R eb eo) (h : Rg w rb s cm mb E) (rm : Bool) (hrm : (!decide (0 < R.bn) && decide ((20 : Int) ≤ ((yck E).length : Int))) = rm) : Calls Tryz.prog 50 #[.pointer (some ⟨rb, 0, none⟩), .agg #[.string R.text, .int .i64 R.br, .int .i64 R.bn, .int .i64 (R.ch 0), .int .i64 (R.ch 1), .int .i64 (R.ch 2), .int .i64 (R.ch 3), .int .i64 (R.ch 4), .int .i64 (R.ch 5), .int .i64 (R.kn 0), .int .i64 (R.kn 1), .int .i64 (R.kn 2), .int .i64 (R.kn 3), .int .i64 (R.kn 4), .int .i64 (R.kn 5)]] V fun e w' => e = .returned (.bool rm) ∧ Sg w w' rb s mb b cm E R eb eo := by
 have S1 := yab (S.below ((Below.refl _ _).alloc (Nat.le_refl _) (.cells #[.string R.text, .int .i64 R.br, .int .i64 R.bn, .int .i64 (R.ch 0), .int .i64 (R.ch 1), .int .i64 (R.ch 2), .int .i64 (R.ch 3), .int .i64 (R.ch 4), .int .i64 (R.ch 5), .int .i64 (R.kn 0), .int .i64 (R.kn 1), .int .i64 (R.kn 2), .int .i64 (R.kn 3), .int .i64 (R.kn 4), .int .i64 (R.kn 5)] 120)))
 have H := yab h
 obtain ⟨k0, k1, k2, k3, k4, k5, k6, k7, k8, _⟩ := (⟨heap_alloc_new V _⟩ : yas (V.alloc (.cells #[.string R.text, .int .i64 R.br, .int .i64 R.bn, .int .i64 (R.ch 0), .int .i64 (R.ch 1), .int .i64 (R.ch 2), .int .i64 (R.ch 3), .int .i64 (R.ch 4), .int .i64 (R.ch 5), .int .i64 (R.kn 0), .int .i64 (R.kn 1), .int .i64 (R.kn 2), .int .i64 (R.kn 3), .int .i64 (R.kn 4), .int .i64 (R.kn 5)] 120)) V.heap.size R).cells
 clear S h
 cases hd : decide (0 < R.bn)
 all_goals
  rw [hd] at hrm
  have HR := yab hrm
  clear hrm
  go_enter Tryz.func50, Tryz.ntmps50
  go_wp2_with (first
   |(go_at_call 60; refine S1.out.there.mono ?_; rintro e w3 ⟨rfl, S3r⟩; have S3 := yab S3r; clear S3r)
   |(go_at_call 69; refine (S3.out.files H.out).mono ?_; rintro e w4 ⟨rfl, S4r⟩; have S4 := yab S4r; clear S4r))
  go_ret
  refine ⟨?_, by first | exact S4.out | exact S3.out⟩
  rw [← HR.out]
  rfl
theorem Sg.keepAll (S : Sg w V rb s mb b cm E R eb eo) {cm0 : Nat → Int} (h : Rg w rb s cm0 mb E) (hc : 0 ≤ cm s) (p : ByteArray) (hp : p.size ≤ 1000000000000) (h0 : 0 ≤ R.bn) (hbr : yfb R) (hl : E.length < 999999) :
  Calls Tryz.prog 56 #[.pointer (some ⟨rb, 0, none⟩), .string p, .agg #[.string R.text, .int .i64 R.br, .int .i64 R.bn, .int .i64 (R.ch 0), .int .i64 (R.ch 1), .int .i64 (R.ch 2), .int .i64 (R.ch 3), .int .i64 (R.ch 4), .int .i64 (R.ch 5), .int .i64 (R.kn 0), .int .i64 (R.kn 1), .int .i64 (R.kn 2), .int .i64 (R.kn 3), .int .i64 (R.kn 4), .int .i64 (R.kn 5)]] V fun e w' => e = .returned (.tuple #[]) ∧ Rg w' rb s cm mb (ybl cm p R E) ∧ Fr (fun k => k = rb ∨ k = mb) w w' := by
 refine (yif rb s cm mb E V S.rep S.own h.ris (by have := h.len; unfold maxLen; omega) p hp R h0).mono ?_
 rintro e w' ⟨rfl, hr, ho, hf⟩
 refine ⟨rfl, ⟨hr, ho, ybx cm p R E h.ris, fun x hx => ?_, ?_, hc⟩, S.fr.trans (hf.mono (fun k _ e => .inr e))⟩
 ·rcases yie hx with rfl | hx
  ·exact ⟨h0, hbr⟩
  ·exact h.bn x hx
 ·have := ygm cm p R E
  omega
end
end Go.Proofs.YtaelaldmibgibaaGreat

namespace Go.Proofs.YtaelaldmibgibaaGreat
open Go.RowKit Go.Maps
theorem rread_some (rb s : Nat) (cm : Nat → Int) (mb : Nat) (E : yav) (w : World) (h : Rg w rb s cm mb E) (p : ByteArray) (hp : p.size ≤ maxLen) (hg : 0 < (ybp s cm (ybb p E)).bn) :
  Calls Tryz.prog 42 #[.pointer (some ⟨rb, 0, none⟩), .string p] w fun e w' => e = .returned (.tuple #[.string (ybp s cm (ybb p E)).text, .int .i64 0]) ∧ Below w.heap.size w w' := by
 have C := yal rb s cm mb E w h.rep h.own p hp
 generalize ybp s cm (ybb p E) = R at *
 have hd0 : decide (0 < R.bn) = true := by simp [hg]
 simp only [yag] at C
 have CH := yab C
 clear C hg h
 go_enter Tryz.func42, Tryz.ntmps42
 go_wp2_with (first
  |(go_at_call 48; refine CH.out.mono ?_; rintro e w1 ⟨rfl, hb1r⟩; have hb1 := yab hb1r; clear hb1r)
  |(go_at_call 60; refine (yaz _ _ _ _ _ _ _ _ _ _).mono ?_; rintro e w2 ⟨rfl, hb2r⟩; have t0 : w2.cell? ⟨w1.heap.size, 0, none⟩ = some (.string R.text) := (hb2r.cell (p := ⟨w1.heap.size, 0, none⟩) (by simp)).trans (by simp [go_sem]); have hb2 := yab (ymp hb1.out hb2r); clear hb2r))
 go_ret2
 exact ⟨rfl, hb2.out⟩
theorem rread_none (rb s : Nat) (cm : Nat → Int) (mb : Nat) (E : yav) (w : World) (h : Rg w rb s cm mb E) (p : ByteArray) (hp : p.size ≤ maxLen) (hg : ¬ 0 < (ybp s cm (ybb p E)).bn) :
  Calls Tryz.prog 42 #[.pointer (some ⟨rb, 0, none⟩), .string p] w fun e w' => e = .returned (.tuple #[.string ⟨#[]⟩, .int .i64 4]) ∧ Below w.heap.size w w' := by
 have C := yal rb s cm mb E w h.rep h.own p hp
 generalize ybp s cm (ybb p E) = R at *
 have hd0 : decide (0 < R.bn) = false := by simp [hg]
 simp only [yag] at C
 have CH := yab C
 clear C hg h
 go_enter Tryz.func42, Tryz.ntmps42
 go_wp2_with (first
  |(go_at_call 48; refine CH.out.mono ?_; rintro e w1 ⟨rfl, hb1r⟩; have hb1 := yab hb1r; clear hb1r)
  |(go_at_call 60; refine (yaz _ _ _ _ _ _ _ _ _ _).mono ?_; rintro e w2 ⟨rfl, hb2r⟩; have hb2 := yab (ymp hb1.out hb2r); clear hb2r))
 go_ret2
 exact ⟨rfl, hb2.out⟩
theorem tf_self (s : Nat) (c : Int) (hs : s < 6) : tf s c s = c := by
 unfold tf one
 match s, hs with
 |0, _ | 1, _ | 2, _ | 3, _ | 4, _ | 5, _ => rfl
def nxG (s : Nat) (cm : Nat → Int) : Nat → Int := yad cm (tf s (cm s + 1))
def noRoom (R : Rec) (E : yav) : Bool := !decide (0 < R.bn) && decide ((20 : Int) ≤ ((yck E).length : Int))
def ydq (s : Nat) (x : Int) (t : ByteArray) (R : Rec) : Rec := ⟨t, (ydg s x t R).br, (ydg s x t R).bn, (ydg s x t R).ch, yad R.kn (tf s x)⟩
theorem ydo (s : Nat) (hs : s < 6) (cm : Nat → Int) (h0 : 0 ≤ cm s) : nxG s cm s = cm s + 1 := by
 unfold nxG yad g1 zer
 rw [tf_self s _ hs]
 (repeat' split) <;> omega
theorem yte (rb s : Nat) (cm : Nat → Int) (mb : Nat) (E : yav) (w : World) (h : Rg w rb s cm mb E) (p t : ByteArray) (hp : p.size ≤ 1000000000000) (hf : 1000000000 ≤ cm s ∨ noRoom (ybp s cm (ybb p E)) E = true) :
  Calls Tryz.prog 30 #[.pointer (some ⟨rb, 0, none⟩), .string p, .string t] w fun e w' => e = .returned (.int .i64 5) ∧ Rg w' rb s cm mb E ∧ Fr (fun k => k = rb ∨ k = mb) w w' := by
 have C := yal rb s cm mb E w h.rep h.own p (by unfold maxLen; omega)
 have fin : Hid (∀ V b R eb eo, Sg w V rb s mb b cm E R eb eo → Rg V rb s cm mb E ∧ Fr (fun k => k = rb ∨ k = mb) w V) := fun V b R eb eo S => ⟨⟨S.rep, S.own, h.ris, h.bn, h.len, h.c0⟩, S.fr⟩
 have H := yab h
 generalize ybp s cm (ybb p E) = R1 at C hf
 simp only [yag] at C
 have CH := yab C
 by_cases hc : 1000000000 ≤ cm s
 ·have hd : decide (1000000000 ≤ cm s) = true := by simp [hc]
  clear C h hf
  go_enter Tryz.func30, Tryz.ntmps30
  go_wp2_with (first
   |(go_at_call 48; refine CH.out.mono ?_; rintro e w1 ⟨rfl, hb1r⟩; have S1 := yab (Sg.start H.out hb1r R1); clear hb1r)
   |(go_at_call 49; refine S1.out.full.mono ?_; rintro e w2 ⟨rfl, S2r⟩; have S2 := yab S2r; clear S2r))
  go_ret
  exact ⟨rfl, fin.out _ _ _ _ _ S2.out⟩
 ·have hrm := hf.resolve_left hc
  unfold noRoom at hrm
  have hd : decide (1000000000 ≤ cm s) = false := by simp; omega
  have HRM := yab hrm
  clear C h hf hc hrm
  go_enter Tryz.func30, Tryz.ntmps30
  go_wp2_with (first
   |(go_at_call 48; refine CH.out.mono ?_; rintro e w1 ⟨rfl, hb1r⟩; have S1 := yab (Sg.start H.out hb1r R1); clear hb1r)
   |(go_at_call 49; refine S1.out.full.mono ?_; rintro e w2 ⟨rfl, S2r⟩; have S2 := yab S2r; obtain ⟨k0, k1, k2, k3, k4, k5, k6, k7, k8, k9, k10, k11, k12, k13, k14⟩ := S2r.rc.cells; clear S2r)
   |(go_at_call 50; refine (S2.out.room H.out true HRM.out).mono ?_; rintro e w4 ⟨rfl, S4r⟩; have S4 := yab S4r; clear S4r))
  go_ret
  exact ⟨rfl, fin.out _ _ _ _ _ S4.out⟩
theorem Sg.evCells {w V : World} {rb s mb b : Nat} {cm : Nat → Int} {E : yav} {R : Rec} {eb : Nat} {x : Int} (S : Sg w V rb s mb b cm E R eb (some (.cells #[.int .i64 s, .int .i64 x] 114))) :
  V.cell? ⟨eb, 0, none⟩ = some (.int .i64 s) ∧ V.cell? ⟨eb, 1, none⟩ = some (.int .i64 x) := by
 have h := (S.ev _ rfl).1
 constructor
 ·simp only [World.cell?, h]; rfl
 ·simp only [World.cell?, h]; rfl
theorem written_ok {s : Nat} {x : Int} {t : ByteArray} {R : Rec} (hs : s < 6) (hx : 0 < x) (h0 : 0 ≤ R.bn) (hb : yfb R) : 0 ≤ (ydq s x t R).bn ∧ yfb (ydq s x t R) := by
 unfold ydq ydg yfb
 constructor
 ·show 0 ≤ (if 0 < R.bn then R.bn else x)
  split <;> omega
 ·show ∃ r : Nat, r < 6 ∧ (if 0 < R.bn then R.br else (s : Int)) = r
  split
  ·exact hb
  ·exact ⟨s, hs, rfl⟩
theorem rwrite_ok (rb s : Nat) (cm : Nat → Int) (mb : Nat) (E : yav) (w : World) (h : Rg w rb s cm mb E) (hl : E.length < 999999) (p t : ByteArray) (hp : p.size ≤ 1000000000000) (ht : t.size ≤ 1000000000000) (hc : cm s < 1000000000) (hrm : noRoom (ybp s cm (ybb p E)) E = false) :
  Calls Tryz.prog 30 #[.pointer (some ⟨rb, 0, none⟩), .string p, .string t] w fun e w' => e = .returned (.int .i64 0) ∧ Rg w' rb s (nxG s cm) mb (ybl (nxG s cm) p (ydq s (cm s + 1) t (ybp s cm (ybb p E))) E) ∧ Fr (fun k => k = rb ∨ k = mb) w w' := by
 have C := yal rb s cm mb E w h.rep h.own p (by unfold maxLen; omega)
 have H := yab h
 have hc0 := h.c0
 have hs := h.rep.hs
 have hns := ydo s hs cm hc0
 obtain ⟨hb0, hbr⟩ := ybi h p
 have hd : decide (1000000000 ≤ cm s) = false := by simp; omega
 generalize ybp s cm (ybb p E) = R1 at *
 simp only [yag] at C
 have CH := yab C
 have HB0 := yab hb0
 have KI : Hid (∀ V b eb eo, Sg w V rb s mb b (yad cm (tf s (cm s + 1))) E ⟨(ydg s (cm s + 1) t R1).text, (ydg s (cm s + 1) t R1).br, (ydg s (cm s + 1) t R1).bn, (ydg s (cm s + 1) t R1).ch, yad (ydg s (cm s + 1) t R1).kn (tf s (cm s + 1))⟩ eb eo → Calls Tryz.prog 56 #[.pointer (some ⟨rb, 0, none⟩), .string p, .agg #[.string (ydg s (cm s + 1) t R1).text, .int .i64 (ydg s (cm s + 1) t R1).br, .int .i64 (ydg s (cm s + 1) t R1).bn, .int .i64 ((ydg s (cm s + 1) t R1).ch 0), .int .i64 ((ydg s (cm s + 1) t R1).ch 1), .int .i64 ((ydg s (cm s + 1) t R1).ch 2), .int .i64 ((ydg s (cm s + 1) t R1).ch 3), .int .i64 ((ydg s (cm s + 1) t R1).ch 4), .int .i64 ((ydg s (cm s + 1) t R1).ch 5), .int .i64 (yad (ydg s (cm s + 1) t R1).kn (tf s (cm s + 1)) 0), .int .i64 (yad (ydg s (cm s + 1) t R1).kn (tf s (cm s + 1)) 1), .int .i64 (yad (ydg s (cm s + 1) t R1).kn (tf s (cm s + 1)) 2), .int .i64 (yad (ydg s (cm s + 1) t R1).kn (tf s (cm s + 1)) 3), .int .i64 (yad (ydg s (cm s + 1) t R1).kn (tf s (cm s + 1)) 4), .int .i64 (yad (ydg s (cm s + 1) t R1).kn (tf s (cm s + 1)) 5)]] V fun e w' => e = .returned (.tuple #[]) ∧ Rg w' rb s (nxG s cm) mb (ybl (nxG s cm) p (ydq s (cm s + 1) t R1) E) ∧ Fr (fun k => k = rb ∨ k = mb) w w') := by
  intro V b eb eo S
  have hw := written_ok (t := t) hs (by omega : 0 < cm s + 1) hb0 hbr
  exact S.keepAll H.out (by show 0 ≤ nxG s cm s; rw [hns]; omega) p hp hw.1 hw.2 hl
 clear C h hb0 hbr hns hl
 unfold noRoom at hrm
 have HRM := yab hrm
 clear hrm
 generalize ybl (nxG s cm) p (ydq s (cm s + 1) t R1) E = E' at KI ⊢
 go_enter Tryz.func30, Tryz.ntmps30
 go_wp2_with (first
  |(go_at_call 48; refine CH.out.mono ?_; rintro e w1 ⟨rfl, hb1r⟩; have S1 := yab (Sg.start H.out hb1r R1); clear hb1r)
  |(go_at_call 49; refine S1.out.full.mono ?_; rintro e w2 ⟨rfl, S2r⟩; have S2 := yab S2r; obtain ⟨k0, k1, k2, k3, k4, k5, k6, k7, k8, k9, k10, k11, k12, k13, k14⟩ := S2r.rc.cells; clear S2r)
  |(go_at_call 50; refine (S2.out.room H.out false HRM.out).mono ?_; rintro e w4 ⟨rfl, S4r⟩; have S4 := yab S4r; clear S4r)
  |(go_at_call 51; refine (S4.out.next hc0 hc).mono ?_; rintro e w5 ⟨rfl, S5r⟩; have S5 := yab S5r; clear S5r))
 clear k0 k1 k2 k3 k4 k5 k6 k7 k8 k9 k10 k11 k12 k13 k14
 have SE := yab ((S5.out.alloc_ev (.cells #[.int .i64 s, .int .i64 (cm s + 1)] 114)).drewN 1)
 have hbn1 := HB0.out
 go_region_law (first
  |(go_simp; go_at_call 53; refine (SE.out.clone t ht).mono ?_; rintro e w6 ⟨rfl, S6r⟩; have S6 := yab S6r; obtain ⟨f0, f1⟩ := S6r.evCells; clear S6r; dsimp only)
  |(go_simp; go_at_call 52; refine (S6.out.write (cm s + 1) t hbn1).mono ?_; rintro e w7 ⟨rfl, S7r⟩; have S7 := yab S7r; obtain ⟨g0, g1⟩ := S7r.evCells; clear S7r; dsimp only))
 all_goals
  clear f0 f1
  go_wp2_with (first
   |(go_at_call 55; refine (S7.out.alone (cm s + 1)).mono ?_; rintro e w8 ⟨rfl, S8r⟩; have S8 := yab S8r; clear S8r)
   |(go_at_call 54; refine (S8.out.hear (tf s (cm s + 1)) _).mono ?_; rintro e w9 ⟨rfl, S9r⟩; have S9 := yab S9r; obtain ⟨k0, k1, k2, k3, k4, k5, k6, k7, k8, k9, k10, k11, k12, k13, k14⟩ := S9r.rc.cells; dsimp only at k0 k1 k2 k3 k4 k5 k6 k7 k8 k9 k10 k11 k12 k13 k14; clear S9r)
   |(go_at_call 56; refine (KI.out _ _ _ _ S9.out).mono ?_; rintro e w10 ⟨rfl, hPr, hFr⟩; have HP := yab hPr; have HF := yab hFr; clear hPr hFr))
  go_ret
  exact ⟨rfl, HP.out, HF.out⟩
def ygy (s : Nat) (x : Int) (R : Rec) : Rec := ⟨⟨#[]⟩, 0, 0, fun _ => 0, yad R.kn (tf s x)⟩
theorem yqr (rb s : Nat) (cm : Nat → Int) (mb : Nat) (E : yav) (w : World) (h : Rg w rb s cm mb E) (p : ByteArray) (hp : p.size ≤ 1000000000000) (hn : ¬ 0 < (ybp s cm (ybb p E)).bn) :
  Calls Tryz.prog 40 #[.pointer (some ⟨rb, 0, none⟩), .string p] w fun e w' => e = .returned (.int .i64 4) ∧ Rg w' rb s cm mb E ∧ Fr (fun k => k = rb ∨ k = mb) w w' := by
 have C := yal rb s cm mb E w h.rep h.own p (by unfold maxLen; omega)
 have fin : Hid (∀ V b R eb eo, Sg w V rb s mb b cm E R eb eo → Rg V rb s cm mb E ∧ Fr (fun k => k = rb ∨ k = mb) w V) := fun V b R eb eo S => ⟨⟨S.rep, S.own, h.ris, h.bn, h.len, h.c0⟩, S.fr⟩
 have H := yab h
 generalize ybp s cm (ybb p E) = R1 at C hn
 have hth : decide (0 < R1.bn) = false := by simp [hn]
 simp only [yag] at C
 have CH := yab C
 clear C h hn
 go_enter Tryz.func40, Tryz.ntmps40
 go_wp2_with (first
  |(go_at_call 48; refine CH.out.mono ?_; rintro e w1 ⟨rfl, hb1r⟩; have S1 := yab (Sg.start H.out hb1r R1); clear hb1r)
  |(go_at_call 60; refine S1.out.there.mono ?_; rintro e w3 ⟨rfl, S3r⟩; have S3 := yab S3r; clear S3r))
 go_ret
 exact ⟨rfl, fin.out _ _ _ _ _ S3.out⟩
theorem yqq (rb s : Nat) (cm : Nat → Int) (mb : Nat) (E : yav) (w : World) (h : Rg w rb s cm mb E) (p : ByteArray) (hp : p.size ≤ 1000000000000) (hn : 0 < (ybp s cm (ybb p E)).bn) (hc : 1000000000 ≤ cm s) :
  Calls Tryz.prog 40 #[.pointer (some ⟨rb, 0, none⟩), .string p] w fun e w' => e = .returned (.int .i64 5) ∧ Rg w' rb s cm mb E ∧ Fr (fun k => k = rb ∨ k = mb) w w' := by
 have C := yal rb s cm mb E w h.rep h.own p (by unfold maxLen; omega)
 have fin : Hid (∀ V b R eb eo, Sg w V rb s mb b cm E R eb eo → Rg V rb s cm mb E ∧ Fr (fun k => k = rb ∨ k = mb) w V) := fun V b R eb eo S => ⟨⟨S.rep, S.own, h.ris, h.bn, h.len, h.c0⟩, S.fr⟩
 have H := yab h
 generalize ybp s cm (ybb p E) = R1 at C hn
 have hth : decide (0 < R1.bn) = true := by simp [hn]
 simp only [yag] at C
 have CH := yab C
 have hd : decide (1000000000 ≤ cm s) = true := by simp [hc]
 clear C h hn
 go_enter Tryz.func40, Tryz.ntmps40
 go_wp2_with (first
  |(go_at_call 48; refine CH.out.mono ?_; rintro e w1 ⟨rfl, hb1r⟩; have S1 := yab (Sg.start H.out hb1r R1); clear hb1r)
  |(go_at_call 60; refine S1.out.there.mono ?_; rintro e w3 ⟨rfl, S3r⟩; have S3 := yab S3r; clear S3r)
  |(go_at_call 49; refine S3.out.full.mono ?_; rintro e w2 ⟨rfl, S2r⟩; have S2 := yab S2r; clear S2r))
 go_ret
 exact ⟨rfl, fin.out _ _ _ _ _ S2.out⟩
theorem rremove_ok (rb s : Nat) (cm : Nat → Int) (mb : Nat) (E : yav) (w : World) (h : Rg w rb s cm mb E) (p : ByteArray) (hp : p.size ≤ 1000000000000) (hn : 0 < (ybp s cm (ybb p E)).bn) (hl : E.length < 999999) (hc : cm s < 1000000000) :
  Calls Tryz.prog 40 #[.pointer (some ⟨rb, 0, none⟩), .string p] w fun e w' => e = .returned (.int .i64 0) ∧ Rg w' rb s (nxG s cm) mb (ybl (nxG s cm) p (ygy s (cm s + 1) (ybp s cm (ybb p E))) E) ∧ Fr (fun k => k = rb ∨ k = mb) w w' := by
 have C := yal rb s cm mb E w h.rep h.own p (by unfold maxLen; omega)
 have H := yab h
 have hc0 := h.c0
 have hs := h.rep.hs
 have hns := ydo s hs cm hc0
 generalize hR1 : ybp s cm (ybb p E) = R1 at C hn ⊢
 clear hR1
 have hth : decide (0 < R1.bn) = true := by simp [hn]
 simp only [yag] at C
 have CH := yab C
 have hd : decide (1000000000 ≤ cm s) = false := by simp; omega
 have KO : Hid (∀ V b eb eo, Sg w V rb s mb b (yad cm (tf s (cm s + 1))) E ⟨⟨#[]⟩, 0, 0, fun _ => 0, yad R1.kn (tf s (cm s + 1))⟩ eb eo → Calls Tryz.prog 56 #[.pointer (some ⟨rb, 0, none⟩), .string p, .agg #[.string ⟨#[]⟩, .int .i64 0, .int .i64 0, .int .i64 0, .int .i64 0, .int .i64 0, .int .i64 0, .int .i64 0, .int .i64 0, .int .i64 (yad R1.kn (tf s (cm s + 1)) 0), .int .i64 (yad R1.kn (tf s (cm s + 1)) 1), .int .i64 (yad R1.kn (tf s (cm s + 1)) 2), .int .i64 (yad R1.kn (tf s (cm s + 1)) 3), .int .i64 (yad R1.kn (tf s (cm s + 1)) 4), .int .i64 (yad R1.kn (tf s (cm s + 1)) 5)]] V fun e w' => e = .returned (.tuple #[]) ∧ Rg w' rb s (nxG s cm) mb (ybl (nxG s cm) p (ygy s (cm s + 1) R1) E) ∧ Fr (fun k => k = rb ∨ k = mb) w w') :=
  fun V b eb eo S => S.keepAll H.out (by show 0 ≤ nxG s cm s; rw [hns]; omega) p hp (Int.le_refl 0) ⟨0, by omega, rfl⟩ hl
 clear C h hn hns hl
 go_enter Tryz.func40, Tryz.ntmps40
 go_wp2_with (first
  |(go_at_call 48; refine CH.out.mono ?_; rintro e w1 ⟨rfl, hb1r⟩; have S1 := yab (Sg.start H.out hb1r R1); clear hb1r)
  |(go_at_call 60; refine S1.out.there.mono ?_; rintro e w3 ⟨rfl, S3r⟩; have S3 := yab S3r; clear S3r)
  |(go_at_call 49; refine S3.out.full.mono ?_; rintro e w2 ⟨rfl, S2r⟩; have S2 := yab S2r; clear S2r)
  |(go_at_call 51; refine (S2.out.next hc0 hc).mono ?_; rintro e w5 ⟨rfl, S5r⟩; have S5 := yab S5r; have SE := yab (S5r.alloc_ev (.cells #[.int .i64 s, .int .i64 (cm s + 1)] 114)); clear S5r)
  |(go_at_call 61; refine SE.out.remove.mono ?_; rintro e w7 ⟨rfl, S7r⟩; have S7 := yab S7r; obtain ⟨g0, g1⟩ := S7r.evCells; clear S7r)
  |(go_at_call 55; refine (S7.out.alone (cm s + 1)).mono ?_; rintro e w8 ⟨rfl, S8r⟩; have S8 := yab S8r; clear S8r)
  |(go_at_call 54; refine (S8.out.hear (tf s (cm s + 1)) _).mono ?_; rintro e w9 ⟨rfl, S9r⟩; have S9 := yab S9r; obtain ⟨k0, k1, k2, k3, k4, k5, k6, k7, k8, k9, k10, k11, k12, k13, k14⟩ := S9r.rc.cells; dsimp only at k0 k1 k2 k3 k4 k5 k6 k7 k8 k9 k10 k11 k12 k13 k14; clear S9r)
  |(go_at_call 56; refine (KO.out _ _ _ _ S9.out).mono ?_; rintro e w10 ⟨rfl, hPr, hFr⟩; have HP := yab hPr; have HF := yab hFr; clear hPr hFr))
 go_ret
 exact ⟨rfl, HP.out, HF.out⟩
open Go.RowKit
theorem ylk (nb n pb : Nat) (rbs : List Nat) (a b : Nat) (ra rb : Nat) (p : ByteArray) (w : World) (h : ykm w nb n pb rbs) (hn : nb < w.heap.size) (hp : pb < w.heap.size) (ha : rbs[a]? = some ra) (hb : rbs[b]? = some rb) (hab : a ≠ b) (hpo : yat p = true) (hs : p.size ≤ maxLen) :
  Calls Tryz.prog 43 #[.pointer (some ⟨nb, 0, none⟩), .int .i64 a, .int .i64 b, .string p] w fun e w' => e = .returned (.tuple #[.pointer (some ⟨ra, 0, none⟩), .pointer (some ⟨rb, 0, none⟩), .int .i64 0]) ∧ Below w.heap.size w w' := by
 have hal : a < n := by have := (List.getElem?_eq_some_iff.1 ha).1; have := h.len; omega
 have hbl : b < n := by have := (List.getElem?_eq_some_iff.1 hb).1; have := h.len; omega
 have hok : okP n a b = true := by
  unfold okP
  simp only [Bool.and_eq_true, decide_eq_true_eq, Bool.not_eq_true', beq_eq_false_iff_ne]
  omega
 have B1 : Hid (Below w.heap.size w (w.alloc (.cells #[.int .i64 a, .int .i64 b] 100))) := (Below.refl _ _).alloc (Nat.le_refl _) _
 have AP := yab (yer nb n pb rbs w.heap.size 1 a b (w.alloc (.cells #[.int .i64 a, .int .i64 b] 100)) (h.below hn hp B1.out) (by simp; omega) (by simp; omega) (by simp) (by simp [go_sem]) (by simp [go_sem]))
 rw [hok] at AP
 have PO : Hid (∀ V, Below w.heap.size w V → Calls Tryz.prog 29 #[.pointer (some ⟨nb, 0, none⟩), .int .i64 a, .string p] V fun e w' => e = .returned (.tuple #[.pointer (some ⟨ra, 0, none⟩), .int .i64 0]) ∧ w' = V) := fun V hV => yfe nb n pb rbs a ra p V (h.below hn hp hV) ha hpo hs
 have NC : Hid (∀ V, Below w.heap.size w V → (∃ cap, V.cell? ⟨nb, 0, none⟩ = some (.slice (some ⟨pb, 0, none⟩) n cap)) ∧ V.cell? ⟨pb, b, none⟩ = some (.pointer (some ⟨rb, 0, none⟩))) := fun V hV => by
  have q := h.below hn hp hV
  obtain ⟨cap, hc⟩ := q.blk
  exact ⟨⟨cap, by simp [World.cell?, hc]⟩, q.row b rb hb⟩
 have hn6 := h.n6
 clear h hok ha hb hpo hs
 go_enter Tryz.func43, Tryz.ntmps43
 go_wp2_with (first
  |(go_at_call 62; refine AP.out.mono ?_; rintro e w1 ⟨rfl, hb1⟩; have B2 := yab (B1.out.trans (hb1.mono (by simp))); clear hb1)
  |(go_at_call 29; refine (PO.out _ B2.out).mono ?_; rintro e w2 ⟨rfl, rfl⟩; obtain ⟨⟨cap, c0⟩, cr⟩ := NC.out _ B2.out))
 go_quiet (fail)
 go_wp2
 go_ret3
 exact ⟨rfl, B2.out.os, B2.out.tape, B2.out.output, B2.out.size, B2.out.block⟩
structure RS where
 cm : Nat → Int
 E : yav
structure Nt (w : World) (nb pb : Nat) (L : List (Nat × Nat)) (S : List RS) : Prop where
 net : ykm w nb S.length pb (L.map (·.1))
 rep : ∀ (i : Nat) x s, L[i]? = some x → S[i]? = some s → Rg w x.1 i s.cm x.2 s.E
 nlt : nb < w.heap.size
 plt : pb < w.heap.size
 apart : (nb :: pb :: (L.map (·.1) ++ L.map (·.2))).Nodup
 pbk : ∃ cur, w.heap[pb]? = some (.cells cur 75 (0, 0))
theorem Nt.below {w w' : World} {nb pb : Nat} {L : List (Nat × Nat)} {S : List RS} (h : Nt w nb pb L S) (hb : Below w.heap.size w w') : Nt w' nb pb L S :=
 ⟨h.net.below h.nlt h.plt hb, fun i x s h1 h2 => (h.rep i x s h1 h2).below hb, Nat.lt_of_lt_of_le h.nlt hb.size, Nat.lt_of_lt_of_le h.plt hb.size, h.apart, h.pbk.imp fun cur hc => (hb.block _ h.plt).trans hc⟩
theorem Nt.len {w : World} {nb pb : Nat} {L : List (Nat × Nat)} {S : List RS} (h : Nt w nb pb L S) : L.length = S.length := by
 have := h.net.len
 simpa using this
theorem Nt.ne {w : World} {nb pb : Nat} {L : List (Nat × Nat)} {S : List RS} (h : Nt w nb pb L S) {i : Nat} {x : Nat × Nat} (hi : L[i]? = some x) : nb ≠ x.1 ∧ nb ≠ x.2 ∧ pb ≠ x.1 ∧ pb ≠ x.2 := by
 have hm := List.mem_of_getElem? hi
 have h1 := h.apart
 simp only [List.nodup_cons, List.mem_cons, List.mem_append, not_or, List.mem_map] at h1
 obtain ⟨⟨_, n1, n2⟩, ⟨p1, p2⟩, _⟩ := h1
 exact ⟨fun e => n1 ⟨x, hm, e.symm⟩, fun e => n2 ⟨x, hm, e.symm⟩, fun e => p1 ⟨x, hm, e.symm⟩, fun e => p2 ⟨x, hm, e.symm⟩⟩
theorem Nt.ne2 {w : World} {nb pb : Nat} {L : List (Nat × Nat)} {S : List RS} (h : Nt w nb pb L S) {i j : Nat} {x y : Nat × Nat} (hi : L[i]? = some x) (hj : L[j]? = some y) (hij : i ≠ j) : x.1 ≠ y.1 ∧ x.1 ≠ y.2 ∧ x.2 ≠ y.1 ∧ x.2 ≠ y.2 := by
 have h1 := h.apart
 simp only [List.nodup_cons, List.nodup_append] at h1
 obtain ⟨_, _, d1, d2, d3⟩ := h1
 have mx := List.mem_of_getElem? hi
 have my := List.mem_of_getElem? hj
 have key : ∀ (f : Nat × Nat → Nat), (L.map f).Nodup → f x ≠ f y := by
  intro f hf e
  have a1 : (L.map f)[i]? = some (f x) := by rw [List.getElem?_map, hi]; rfl
  have a2 : (L.map f)[j]? = some (f y) := by rw [List.getElem?_map, hj]; rfl
  exact ymx hf a1 a2 hij e
 refine ⟨key _ d1, fun e => ?_, fun e => ?_, key _ d2⟩
 ·exact d3 x.1 (List.mem_map.2 ⟨x, mx, rfl⟩) y.2 (List.mem_map.2 ⟨y, my, rfl⟩) e
 ·exact d3 y.1 (List.mem_map.2 ⟨y, my, rfl⟩) x.2 (List.mem_map.2 ⟨x, mx, rfl⟩) e.symm
theorem Nt.turn {w w' : World} {nb pb : Nat} {L : List (Nat × Nat)} {S : List RS} (h : Nt w nb pb L S) {i : Nat} {x : Nat × Nat} (hi : L[i]? = some x) (hf : Fr (fun k => k = x.1 ∨ k = x.2) w w') {s' : RS} (hr : Rg w' x.1 i s'.cm x.2 s'.E) : Nt w' nb pb L (S.set i s') := by
 obtain ⟨e1, e2, e3, e4⟩ := h.ne hi
 refine ⟨?_, fun j y s hj hs => ?_, Nat.lt_of_lt_of_le h.nlt hf.size, Nat.lt_of_lt_of_le h.plt hf.size, h.apart, h.pbk.imp fun cur hc => (hf.block pb h.plt (by rintro (e | e); exact e3 e; exact e4 e)).trans hc⟩
 ·rw [List.length_set]
  obtain ⟨cap, hc⟩ := h.net.blk
  refine ⟨⟨cap, by rw [hf.block nb h.nlt (by rintro (e | e); exact e1 e; exact e2 e)]; exact hc⟩, h.net.len, fun r b hr => ?_, h.net.n6⟩
  rw [World.cell?_of_block (w := w) (hf.block pb h.plt (by rintro (e | e); exact e3 e; exact e4 e))]
  exact h.net.row r b hr
 ·by_cases hij : i = j
  ·subst hij
   rw [hi] at hj
   cases hj
   have hlt : i < S.length := by have := (List.getElem?_eq_some_iff.1 hi).1; have := h.len; omega
   rw [List.getElem?_set_self hlt] at hs
   cases hs
   exact hr
  ·rw [List.getElem?_set_ne hij] at hs
   have q := h.rep j y s hj hs
   obtain ⟨n1, n2, n3, n4⟩ := h.ne2 hi hj hij
   exact q.keep (hf.block _ q.rep.lt (by rintro (e | e); exact n1 e.symm; exact n3 e.symm)) (hf.block _ q.own.lt (by rintro (e | e); exact n2 e.symm; exact n4 e.symm))
def wrR (s : Nat) (x : RS) (p t : ByteArray) : Int × RS :=
 if (decide (1000000000 ≤ x.cm s) || noRoom (ybp s x.cm (ybb p x.E)) x.E) = true then (5, x)
 else (0, ⟨nxG s x.cm, ybl (nxG s x.cm) p (ydq s (x.cm s + 1) t (ybp s x.cm (ybb p x.E))) x.E⟩)
theorem rwrite_any (rb s mb : Nat) (x : RS) (w : World) (h : Rg w rb s x.cm mb x.E) (hl : x.E.length < 999999) (p t : ByteArray) (hp : p.size ≤ 1000000000000) (ht : t.size ≤ 1000000000000) :
  Calls Tryz.prog 30 #[.pointer (some ⟨rb, 0, none⟩), .string p, .string t] w fun e w' => e = .returned (.int .i64 (wrR s x p t).1) ∧ Rg w' rb s (wrR s x p t).2.cm mb (wrR s x p t).2.E ∧ Fr (fun k => k = rb ∨ k = mb) w w' := by
 unfold wrR
 split
 ·next hc =>
  rw [Bool.or_eq_true, decide_eq_true_eq] at hc
  exact yte rb s x.cm mb x.E w h p t hp hc
 ·next hc =>
  rw [Bool.or_eq_true, decide_eq_true_eq, not_or] at hc
  exact rwrite_ok rb s x.cm mb x.E w h hl p t hp ht (by omega) (by simpa using hc.2)
def rmR (s : Nat) (x : RS) (p : ByteArray) : Int × RS :=
 if (decide (0 < (ybp s x.cm (ybb p x.E)).bn)) = false then (4, x)
 else if (decide (1000000000 ≤ x.cm s)) = true then (5, x)
 else (0, ⟨nxG s x.cm, ybl (nxG s x.cm) p (ygy s (x.cm s + 1) (ybp s x.cm (ybb p x.E))) x.E⟩)
theorem ytc (rb s mb : Nat) (x : RS) (w : World) (h : Rg w rb s x.cm mb x.E) (hl : x.E.length < 999999) (p : ByteArray) (hp : p.size ≤ 1000000000000) :
  Calls Tryz.prog 40 #[.pointer (some ⟨rb, 0, none⟩), .string p] w fun e w' => e = .returned (.int .i64 (rmR s x p).1) ∧ Rg w' rb s (rmR s x p).2.cm mb (rmR s x p).2.E ∧ Fr (fun k => k = rb ∨ k = mb) w w' := by
 unfold rmR
 split
 ·next hc => exact yqr rb s x.cm mb x.E w h p hp (by simpa using hc)
 ·next hc =>
  split
  ·next hd => exact yqq rb s x.cm mb x.E w h p hp (by simpa using hc) (by simpa using hd)
  ·next hd => exact rremove_ok rb s x.cm mb x.E w h p hp (by simpa using hc) hl (by simp at hd; omega)
def rdR (s : Nat) (x : RS) (p : ByteArray) : ByteArray × Int :=
 if (decide (0 < (ybp s x.cm (ybb p x.E)).bn)) = true then ((ybp s x.cm (ybb p x.E)).text, 0) else (⟨#[]⟩, 4)
theorem rread_any (rb s mb : Nat) (x : RS) (w : World) (h : Rg w rb s x.cm mb x.E) (p : ByteArray) (hp : p.size ≤ maxLen) :
  Calls Tryz.prog 42 #[.pointer (some ⟨rb, 0, none⟩), .string p] w fun e w' => e = .returned (.tuple #[.string (rdR s x p).1, .int .i64 (rdR s x p).2]) ∧ Below w.heap.size w w' := by
 unfold rdR
 split
 ·next hc => exact rread_some rb s x.cm mb x.E w h p hp (by simpa using hc)
 ·next hc => exact rread_none rb s x.cm mb x.E w h p hp (by simpa using hc)
theorem ynd {nb pb : Nat} {L : List (Nat × Nat)} {S : List RS} {w : World} (h : Nt w nb pb L S) (r : Nat) {x : Nat × Nat} {s : RS} (hx : L[r]? = some x) (hs : S[r]? = some s) (hl : s.E.length < 999999) (p t : ByteArray) (hp : yat p = true) (hpm : p.size ≤ 1000000) (ht : t.size ≤ 60) :
  Calls Tryz.prog 10 #[.pointer (some ⟨nb, 0, none⟩), .int .i64 r, .string p, .string t] w fun e w' => e = .returned (.int .i64 (wrR r s p t).1) ∧ Nt w' nb pb L (S.set r (wrR r s p t).2) ∧ Fr (fun k => k = x.1 ∨ k = x.2) w w' := by
 have C := yab (yfe nb S.length pb (L.map (·.1)) r x.1 p w h.net (by rw [List.getElem?_map, hx]; rfl) hp (by unfold maxLen; omega))
 have W1 := yab (rwrite_any x.1 r x.2 s w (h.rep r x s hx hs) hl p t (by omega) (by omega))
 have FN : Hid (∀ w', Rg w' x.1 r (wrR r s p t).2.cm x.2 (wrR r s p t).2.E → Fr (fun k => k = x.1 ∨ k = x.2) w w' → Nt w' nb pb L (S.set r (wrR r s p t).2)) := fun w' h1 h2 => h.turn hx h2 h1
 have d1 : decide ((60 : Int) < (t.size : Int)) = false := by simp; omega
 clear h hx hs hp hpm ht hl
 go_enter Tryz.func10, Tryz.ntmps10
 go_wp2_with (first
  |(go_at_call 29; refine C.out.mono ?_; rintro e w1 ⟨rfl, rfl⟩)
  |(go_at_call 30; refine W1.out.mono ?_; rintro e w2 ⟨rfl, hRr, hFr⟩; have HR := yab hRr; have HF := yab hFr; clear hRr hFr))
 go_ret
 exact ⟨rfl, FN.out _ HR.out HF.out, HF.out⟩
theorem ysj {nb pb : Nat} {L : List (Nat × Nat)} {S : List RS} {w : World} (h : Nt w nb pb L S) (r : Nat) {x : Nat × Nat} {s : RS} (hx : L[r]? = some x) (hs : S[r]? = some s) (hl : s.E.length < 999999) (p : ByteArray) (hp : yat p = true) (hpm : p.size ≤ 1000000) :
  Calls Tryz.prog 21 #[.pointer (some ⟨nb, 0, none⟩), .int .i64 r, .string p] w fun e w' => e = .returned (.int .i64 (rmR r s p).1) ∧ Nt w' nb pb L (S.set r (rmR r s p).2) ∧ Fr (fun k => k = x.1 ∨ k = x.2) w w' := by
 have C := yab (yfe nb S.length pb (L.map (·.1)) r x.1 p w h.net (by rw [List.getElem?_map, hx]; rfl) hp (by unfold maxLen; omega))
 have W1 := yab (ytc x.1 r x.2 s w (h.rep r x s hx hs) hl p (by omega))
 have FN : Hid (∀ w', Rg w' x.1 r (rmR r s p).2.cm x.2 (rmR r s p).2.E → Fr (fun k => k = x.1 ∨ k = x.2) w w' → Nt w' nb pb L (S.set r (rmR r s p).2)) := fun w' h1 h2 => h.turn hx h2 h1
 clear h hx hs hp hpm hl
 go_enter Tryz.func21, Tryz.ntmps21
 go_wp2_with (first
  |(go_at_call 29; refine C.out.mono ?_; rintro e w1 ⟨rfl, rfl⟩)
  |(go_at_call 40; refine W1.out.mono ?_; rintro e w2 ⟨rfl, hRr, hFr⟩; have HR := yab hRr; have HF := yab hFr; clear hRr hFr))
 go_ret
 exact ⟨rfl, FN.out _ HR.out HF.out, HF.out⟩
theorem nread_any {nb pb : Nat} {L : List (Nat × Nat)} {S : List RS} {w : World} (h : Nt w nb pb L S) (r : Nat) {x : Nat × Nat} {s : RS} (hx : L[r]? = some x) (hs : S[r]? = some s) (p : ByteArray) (hp : yat p = true) (hpm : p.size ≤ 1000000) :
  Calls Tryz.prog 25 #[.pointer (some ⟨nb, 0, none⟩), .int .i64 r, .string p] w fun e w' => e = .returned (.tuple #[.string (rdR r s p).1, .int .i64 (rdR r s p).2]) ∧ Nt w' nb pb L S ∧ Below w.heap.size w w' := by
 have C := yab (yfe nb S.length pb (L.map (·.1)) r x.1 p w h.net (by rw [List.getElem?_map, hx]; rfl) hp (by unfold maxLen; omega))
 have W1 := yab (rread_any x.1 r x.2 s w (h.rep r x s hx hs) p (by unfold maxLen; omega))
 have FN : Hid (∀ w', Below w.heap.size w w' → Nt w' nb pb L S) := fun w' hb => h.below hb
 clear h hx hs hp hpm
 go_enter Tryz.func25, Tryz.ntmps25
 go_wp2_with (first
  |(go_at_call 29; refine C.out.mono ?_; rintro e w1 ⟨rfl, rfl⟩)
  |(go_at_call 42; refine W1.out.mono ?_; rintro e w2 ⟨rfl, hBr⟩; have HB := yab hBr; clear hBr))
 go_ret2
 exact ⟨rfl, FN.out _ HB.out, HB.out⟩
def hasB (R : Rec) (k : Nat → Int) : Bool := decide (R.bn ≤ k R.br.toNat)
theorem yhf (R : Rec) (k : Nat → Int) (hR : yfb R) (w : World) :
  Calls Tryz.prog 98 #[.agg #[.int .i64 (k 0), .int .i64 (k 1), .int .i64 (k 2), .int .i64 (k 3), .int .i64 (k 4), .int .i64 (k 5)], ybw R] w fun e w' => e = .returned (.bool (hasB R k)) ∧ Below w.heap.size w w' := by
 obtain ⟨r, hr, hb⟩ := hR
 unfold ybw hasB
 rw [hb]
 have HA := yab (fun V => Has_any k r R.bn hr V)
 unfold ytk at HA
 rw [show ((r : Int).toNat) = r from rfl]
 generalize decide (R.bn ≤ k r) = z at *
 go_enter Tryz.func98, Tryz.ntmps98
 go_wp2_with (go_at_call 124; refine (HA.out _).mono ?_; rintro e w1 ⟨rfl, hb1⟩)
 go_ret
 exact ⟨rfl, (((Below.refl _ _).alloc (Nat.le_refl _) _).alloc (by simp) _).trans (hb1.mono (by simp; omega))⟩
def ysg (a b : Rec) : Bool := (a.br == b.br && a.bn == b.bn) && eqT a.ch b.ch
theorem yqu (x y u v : Int) (w : World) : (Op.equalIn 10000 114 (.agg #[.int .i64 x, .int .i64 y]) (.agg #[.int .i64 u, .int .i64 v])).run Tryz.prog w = .ok (x == u && y == v) w := by
 go_simp
 by_cases h1 : x = u <;> by_cases h2 : y = v <;> simp [h1, h2]
def eqEv (x y : Value) : Sem Value := binOp .eql 114 x y
theorem eqEvent (x y : Value) : binOp .eql 114 x y = eqEv x y := rfl
theorem run_eqEv (x y u v : Int) (w : World) : (eqEv (.agg #[.int .i64 x, .int .i64 y]) (.agg #[.int .i64 u, .int .i64 v])).run Tryz.prog w = .ok (.bool (x == u && y == v)) w := by
 unfold eqEv
 rw [run_eql_struct, yqu]
 rfl
attribute [local go_sem ↓] eqTime eqEvent
attribute [local go_sem] yot run_eqEv
theorem yof (a b : Rec) (w : World) :
  Calls Tryz.prog 125 #[ybw a, ybw b] w fun e w' => e = .returned (.bool (ysg a b)) ∧ Below w.heap.size w w' := by
 unfold ybw ysg
 cases hd : (a.br == b.br && a.bn == b.bn)
 all_goals
  go_enter Tryz.func125, Tryz.ntmps125
  go_wp2
  go_ret
  exact ⟨rfl, ((Below.refl _ _).alloc (Nat.le_refl _) _).alloc (by simp) _⟩
end Go.Proofs.YtaelaldmibgibaaGreat
