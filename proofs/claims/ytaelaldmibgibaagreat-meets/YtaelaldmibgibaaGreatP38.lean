/- A file that was in conflict is settled. A replica while a record is changed: each call of Write, Remove, PullPath and Resolve carries it on. A replica of the program's: Read, Write, Remove, whatever it knows. A replica of the program's: Remove, whatever it knows. Is there room for a file of this record? A replica while a conflict is ended: two records beside the one that is changed. A new record beside a replica's. The program's net: pairs of replicas (one pair at a time), the two places of a path. The program's net, whatever its replicas know: its Write, Remove, Read. The program's net: Write, Remove, Read, of replicas that there are. The program's net: New. The program's IsWithin: of all that is known. A replica of the program's: Resolve. -/
import Derived.Test.YtaelaldmibgibaaGreatP21
import Derived.Test.YtaelaldmibgibaaGreatP37
import Derived.Test.YtaelaldmibgibaaGreatP35
import Derived.Outline
import Derived.Test.YtaelaldmibgibaaGreatP33
import Derived.Test.YtaelaldmibgibaaGreatP25
import Derived.Laws.StructEq
import Derived.BigQuiet
import Derived.Deep.QuietTactic
import Derived.Test.YtaelaldmibgibaaGreatRows
import Derived.WalkKit
import Derived.WalkSpells
import Derived.WalkLawsBesides
import Derived.Deep.AppendLies
import Derived.Deep.MidRow
import Derived.Deep.DrawnRows
import Derived.Deep.RegionWith
import Derived.Deep.RegionHeld3
import Derived.Test.YtaelaldmibgibaaGreatP02
import Derived.ChangeKeysEq
import Derived.Deep.RegionLaw
import Derived.Deep.DeepMust
import Derived.Maps.OwnSet
import Derived.Maps.OwnOps
import Derived.Maps.Range
import Derived.Maps.RangeWalk
import Derived.Sort.MapsRangeIn
import Derived.Sort.OwnSorted
import Derived.Lib.ItoaNum
import Derived.Lib.AtoiAll
import Derived.Lib.Strings
import Derived.Lib.Split
import Derived.Lib.LastIndexByte
import Derived.Test.YtaelaldmibgibaaGreatP01
import Derived.Test.YtaelaldmibgibaaGreatP03
import Derived.Test.YtaelaldmibgibaaGreatP18
import Derived.Test.YtaelaldmibgibaaGreatP04
import Derived.Test.YtaelaldmibgibaaGreatP19
import Derived.Test.YtaelaldmibgibaaGreatP22
import Derived.Test.YtaelaldmibgibaaGreatP20
import Derived.Test.YtaelaldmibgibaaGreatP23
import Derived.Test.YtaelaldmibgibaaGreatP24
import Derived.Test.YtaelaldmibgibaaGreatP26
import Derived.Test.YtaelaldmibgibaaGreatP27
import Derived.Test.YtaelaldmibgibaaGreatP28
import Derived.Test.YtaelaldmibgibaaGreatP29
import Derived.Test.YtaelaldmibgibaaGreatP30
import Derived.Test.YtaelaldmibgibaaGreatP31
import Derived.Test.YtaelaldmibgibaaGreatP32
import Derived.Test.YtaelaldmibgibaaGreatP34

set_option linter.unusedVariables false
set_option linter.unusedSimpArgs false
set_option linter.unusedSectionVars false

namespace Go.Proofs.YtaelaldmibgibaaGreat
open Go.RowKit
attribute [local go_sem ↓] Go.wp_at_zero Go.wp_at_succ
attribute [local go_sem ↓] stTime
attribute [local go_sem] stTime2

theorem built18 (w : World) (a b d : Nat → Int) (ty : TypeId) :
    (∀ j, j < 6 → (w.alloc (.cells #[.int .i64 (a 0), .int .i64 (a 1), .int .i64 (a 2), .int .i64 (a 3), .int .i64 (a 4), .int .i64 (a 5), .int .i64 (b 0), .int .i64 (b 1), .int .i64 (b 2), .int .i64 (b 3), .int .i64 (b 4), .int .i64 (b 5), .int .i64 (d 0), .int .i64 (d 1), .int .i64 (d 2), .int .i64 (d 3), .int .i64 (d 4), .int .i64 (d 5)] ty)).cell? ⟨w.heap.size, j, none⟩ = some (.int .i64 (a j))) ∧
    (∀ j, j < 6 → (w.alloc (.cells #[.int .i64 (a 0), .int .i64 (a 1), .int .i64 (a 2), .int .i64 (a 3), .int .i64 (a 4), .int .i64 (a 5), .int .i64 (b 0), .int .i64 (b 1), .int .i64 (b 2), .int .i64 (b 3), .int .i64 (b 4), .int .i64 (b 5), .int .i64 (d 0), .int .i64 (d 1), .int .i64 (d 2), .int .i64 (d 3), .int .i64 (d 4), .int .i64 (d 5)] ty)).cell? ⟨w.heap.size, 6 + j, none⟩ = some (.int .i64 (b j))) ∧
    (∀ j, j < 6 → (w.alloc (.cells #[.int .i64 (a 0), .int .i64 (a 1), .int .i64 (a 2), .int .i64 (a 3), .int .i64 (a 4), .int .i64 (a 5), .int .i64 (b 0), .int .i64 (b 1), .int .i64 (b 2), .int .i64 (b 3), .int .i64 (b 4), .int .i64 (b 5), .int .i64 (d 0), .int .i64 (d 1), .int .i64 (d 2), .int .i64 (d 3), .int .i64 (d 4), .int .i64 (d 5)] ty)).cell? ⟨w.heap.size, 12 + j, none⟩ = some (.int .i64 (d j))) := by
  refine ⟨?_, ?_, ?_⟩
  all_goals
    intro j hj
    simp only [World.cell?, heap_alloc_new]
    match j, hj with
    | 0, _ | 1, _ | 2, _ | 3, _ | 4, _ | 5, _ => rfl
/-- the file settled; its two rivals and the event in new blocks -/
structure S3 (w V : World) (b : Nat) (R p q : Rec) (s : Nat) (x : Int) : Prop where
  rc : RecAt V b R
  a : ∀ j, j < 6 → V.cell? ⟨w.heap.size, 3 + j, none⟩ = some (.int .i64 (p.ch j))
  o : ∀ j, j < 6 → V.cell? ⟨w.heap.size + 1, 3 + j, none⟩ = some (.int .i64 (q.ch j))
  e0 : V.cell? ⟨w.heap.size + 2, 0, none⟩ = some (.int .i64 s)
  e1 : V.cell? ⟨w.heap.size + 2, 1, none⟩ = some (.int .i64 x)
  lt : w.heap.size + 2 < V.heap.size
  blt : b < w.heap.size
  fr : Fr (fun k => k = b) w V
theorem S3.more {w V V' : World} {b : Nat} {R p q : Rec} {s : Nat} {x : Int} (h : S3 w V b R p q s x) (hb : Below V.heap.size V V') : S3 w V' b R p q s x :=
  ⟨h.rc.more hb, fun j hj => (hb.cell (p := ⟨w.heap.size, 3 + j, none⟩) (by have := h.lt; simp only; omega)).trans (h.a j hj), fun j hj => (hb.cell (p := ⟨w.heap.size + 1, 3 + j, none⟩) (by have := h.lt; simp only; omega)).trans (h.o j hj), (hb.cell (p := ⟨w.heap.size + 2, 0, none⟩) h.lt).trans h.e0, (hb.cell (p := ⟨w.heap.size + 2, 1, none⟩) h.lt).trans h.e1, Nat.lt_of_lt_of_le h.lt hb.size, h.blt, h.fr.trans (Fr.of_below hb)⟩
theorem S3.on {w V V' : World} {b : Nat} {R R' p q : Rec} {s : Nat} {x : Int} (h : S3 w V b R p q s x) (hr : RecAt V' b R') (hf : Fr (fun k => k = b) V V') : S3 w V' b R' p q s x :=
  ⟨hr, fun j hj => (World.cell?_of_block (w := V) (hf.block _ (by have := h.lt; simp only; omega) (by have := h.blt; simp only; omega))).trans (h.a j hj), fun j hj => (World.cell?_of_block (w := V) (hf.block _ (by have := h.lt; simp only; omega) (by have := h.blt; simp only; omega))).trans (h.o j hj), (World.cell?_of_block (w := V) (hf.block _ h.lt (by have := h.blt; simp only; omega))).trans h.e0, (World.cell?_of_block (w := V) (hf.block _ h.lt (by have := h.blt; simp only; omega))).trans h.e1, Nat.lt_of_lt_of_le h.lt hf.size, h.blt, h.fr.trans hf⟩
theorem S3.made {w : World} {b : Nat} {R : Rec} (h : RecAt w b R) (p q : Rec) (s : Nat) (x : Int) : S3 w (((w.alloc (.cells #[.string p.text, .int .i64 p.br, .int .i64 p.bn, .int .i64 (p.ch 0), .int .i64 (p.ch 1), .int .i64 (p.ch 2), .int .i64 (p.ch 3), .int .i64 (p.ch 4), .int .i64 (p.ch 5)] 116)).alloc (.cells #[.string q.text, .int .i64 q.br, .int .i64 q.bn, .int .i64 (q.ch 0), .int .i64 (q.ch 1), .int .i64 (q.ch 2), .int .i64 (q.ch 3), .int .i64 (q.ch 4), .int .i64 (q.ch 5)] 116)).alloc (.cells #[.int .i64 s, .int .i64 x] 114)) b R p q s x := by
  have b1 := (Below.refl w.heap.size w).alloc (Nat.le_refl _) (.cells #[.string p.text, .int .i64 p.br, .int .i64 p.bn, .int .i64 (p.ch 0), .int .i64 (p.ch 1), .int .i64 (p.ch 2), .int .i64 (p.ch 3), .int .i64 (p.ch 4), .int .i64 (p.ch 5)] 116)
  have c1 : ∀ j, j < 6 → (w.alloc (.cells #[.string p.text, .int .i64 p.br, .int .i64 p.bn, .int .i64 (p.ch 0), .int .i64 (p.ch 1), .int .i64 (p.ch 2), .int .i64 (p.ch 3), .int .i64 (p.ch 4), .int .i64 (p.ch 5)] 116)).cell? ⟨w.heap.size, 3 + j, none⟩ = some (.int .i64 (p.ch j)) := by
    intro j hj
    simp only [World.cell?, heap_alloc_new]
    match j, hj with
    | 0, _ | 1, _ | 2, _ | 3, _ | 4, _ | 5, _ => rfl
  generalize hV : w.alloc (.cells #[.string p.text, .int .i64 p.br, .int .i64 p.bn, .int .i64 (p.ch 0), .int .i64 (p.ch 1), .int .i64 (p.ch 2), .int .i64 (p.ch 3), .int .i64 (p.ch 4), .int .i64 (p.ch 5)] 116) = V at *
  have s1 : V.heap.size = w.heap.size + 1 := by rw [← hV]; simp
  have b2 := (Below.refl V.heap.size V).alloc (Nat.le_refl _) (.cells #[.string q.text, .int .i64 q.br, .int .i64 q.bn, .int .i64 (q.ch 0), .int .i64 (q.ch 1), .int .i64 (q.ch 2), .int .i64 (q.ch 3), .int .i64 (q.ch 4), .int .i64 (q.ch 5)] 116)
  have c2 : ∀ j, j < 6 → (V.alloc (.cells #[.string q.text, .int .i64 q.br, .int .i64 q.bn, .int .i64 (q.ch 0), .int .i64 (q.ch 1), .int .i64 (q.ch 2), .int .i64 (q.ch 3), .int .i64 (q.ch 4), .int .i64 (q.ch 5)] 116)).cell? ⟨V.heap.size, 3 + j, none⟩ = some (.int .i64 (q.ch j)) := by
    intro j hj
    simp only [World.cell?, heap_alloc_new]
    match j, hj with
    | 0, _ | 1, _ | 2, _ | 3, _ | 4, _ | 5, _ => rfl
  generalize hU : V.alloc (.cells #[.string q.text, .int .i64 q.br, .int .i64 q.bn, .int .i64 (q.ch 0), .int .i64 (q.ch 1), .int .i64 (q.ch 2), .int .i64 (q.ch 3), .int .i64 (q.ch 4), .int .i64 (q.ch 5)] 116) = U at *
  have s2 : U.heap.size = w.heap.size + 2 := by rw [← hU]; simp [s1]
  have b3 := (Below.refl U.heap.size U).alloc (Nat.le_refl _) (.cells #[.int .i64 s, .int .i64 x] 114)
  have bel : Below w.heap.size w (U.alloc (.cells #[.int .i64 s, .int .i64 x] 114)) := (b1.trans (b2.mono (by omega))).trans (b3.mono (by omega))
  refine ⟨h.more bel, fun j hj => ?_, fun j hj => ?_, ?_, ?_, by simp [s2], h.lt, Fr.of_below bel⟩
  · rw [b3.cell (by simp only; omega), b2.cell (by simp only; omega)]; exact c1 j hj
  · rw [b3.cell (by simp only; omega), ← s1]; exact c2 j hj
  · rw [← s2]; simp only [World.cell?, heap_alloc_new]; rfl
  · rw [← s2]; simp only [World.cell?, heap_alloc_new]; rfl
theorem RecAt.there36 {w : World} {b : Nat} {R : Rec} (h : RecAt w b R) : w.there b 3 6 := fun j hj => by
  have := h.there (3 + j) (by omega)
  rwa [Nat.zero_add] at this
/-- the record settled -/
def settled (s : Nat) (x : Int) (p q R : Rec) : Rec := if (decide (0 < R.bn)) = true then ⟨R.text, s, x, g3 p.ch q.ch (tf s x), R.kn⟩ else R
set_option maxRecDepth 100000 in
set_option maxHeartbeats 1000000 in
theorem settle_no (b : Nat) (R p q : Rec) (s : Nat) (x : Int) (w : World) (h : RecAt w b R) (hn : decide (0 < R.bn) = false) :
    Calls Tryz.prog 66 #[.pointer (some ⟨b, 0, none⟩), fileVal p, fileVal q, .agg #[.int .i64 s, .int .i64 x]] w fun e w' => e = .returned (.tuple #[]) ∧ RecAt w' b R ∧ Fr (fun k => k = b) w w' := by
  have S1 := hide (S3.made h p q s x)
  obtain ⟨k0, k1, k2, k3, k4, k5, k6, k7, k8, k9, k10, k11, k12, k13, k14⟩ := S1.out.rc.cells
  unfold fileVal
  go_enter Tryz.func66, Tryz.ntmps66
  go_wp2_with (go_at_call 60; refine (isThere_any _ _ _ _ _ _ _ _ _ _).mono ?_; rintro e w1 ⟨rfl, hb1⟩; have S2 := hide (S1.out.more hb1); clear hb1)
  go_end0
  exact ⟨rfl, S2.out.rc, S2.out.fr⟩
set_option maxRecDepth 100000 in
set_option maxHeartbeats 6000000 in
theorem settle_yes (b : Nat) (R p q : Rec) (s : Nat) (hs : s < 6) (x : Int) (w : World) (h : RecAt w b R) (hn : decide (0 < R.bn) = true) :
    Calls Tryz.prog 66 #[.pointer (some ⟨b, 0, none⟩), fileVal p, fileVal q, .agg #[.int .i64 s, .int .i64 x]] w fun e w' => e = .returned (.tuple #[]) ∧ RecAt w' b ⟨R.text, s, x, g3 p.ch q.ch (tf s x), R.kn⟩ ∧ Fr (fun k => k = b) w w' := by
  have S1 := hide (S3.made h p q s x)
  obtain ⟨k0, k1, k2, k3, k4, k5, k6, k7, k8, k9, k10, k11, k12, k13, k14⟩ := S1.out.rc.cells
  unfold fileVal
  clear h
  go_enter Tryz.func66, Tryz.ntmps66
  go_wp2_with (go_at_call 60; refine (isThere_any _ _ _ _ _ _ _ _ _ _).mono ?_; (try clear k0 k1 k2 k3 k4 k5 k6 k7 k8 k9 k10 k11 k12 k13 k14); rintro e w1 ⟨rfl, hb1⟩; have S2 := hide (S1.out.more hb1); obtain ⟨k0, k1, k2, k3, k4, k5, k6, k7, k8, k9, k10, k11, k12, k13, k14⟩ := S2.out.rc.cells; have fz := S2.out.rc.fz; have ev0 := S2.out.e0; have ev1 := S2.out.e1; clear hb1)
  clear k0 k1 k2 k3 k4 k5 k6 k7 k8 k9 k10 k11 k12 k13 k14 fz ev0 ev1
  have S4 : Hid (S3 w ((w1.setCell ⟨b, 1, none⟩ (.int .i64 s)).setCell ⟨b, 2, none⟩ (.int .i64 x)) b ⟨R.text, s, x, R.ch, R.kn⟩ p q s x) :=
    S2.out.on ((S2.out.rc.setBr s).setBn x) (((Fr.refl (fun k => k = b) w1).setCell (p := ⟨b, 1, none⟩) (.inl rfl) (.int .i64 s)).setCell (p := ⟨b, 2, none⟩) (.inl rfl) (.int .i64 x))
  generalize (w1.setCell ⟨b, 1, none⟩ (.int .i64 s)).setCell ⟨b, 2, none⟩ (.int .i64 x) = W1 at *
  have ma0 : W1.cell? ⟨w.heap.size, 3, none⟩ = some (.int .i64 (p.ch 0)) := S4.out.a 0 (by omega)
  have ma1 : W1.cell? ⟨w.heap.size, 4, none⟩ = some (.int .i64 (p.ch 1)) := S4.out.a 1 (by omega)
  have ma2 : W1.cell? ⟨w.heap.size, 5, none⟩ = some (.int .i64 (p.ch 2)) := S4.out.a 2 (by omega)
  have ma3 : W1.cell? ⟨w.heap.size, 6, none⟩ = some (.int .i64 (p.ch 3)) := S4.out.a 3 (by omega)
  have ma4 : W1.cell? ⟨w.heap.size, 7, none⟩ = some (.int .i64 (p.ch 4)) := S4.out.a 4 (by omega)
  have ma5 : W1.cell? ⟨w.heap.size, 8, none⟩ = some (.int .i64 (p.ch 5)) := S4.out.a 5 (by omega)
  have mo0 : W1.cell? ⟨w.heap.size + 1, 3, none⟩ = some (.int .i64 (q.ch 0)) := S4.out.o 0 (by omega)
  have mo1 : W1.cell? ⟨w.heap.size + 1, 4, none⟩ = some (.int .i64 (q.ch 1)) := S4.out.o 1 (by omega)
  have mo2 : W1.cell? ⟨w.heap.size + 1, 5, none⟩ = some (.int .i64 (q.ch 2)) := S4.out.o 2 (by omega)
  have mo3 : W1.cell? ⟨w.heap.size + 1, 6, none⟩ = some (.int .i64 (q.ch 3)) := S4.out.o 3 (by omega)
  have mo4 : W1.cell? ⟨w.heap.size + 1, 7, none⟩ = some (.int .i64 (q.ch 4)) := S4.out.o 4 (by omega)
  have mo5 : W1.cell? ⟨w.heap.size + 1, 8, none⟩ = some (.int .i64 (q.ch 5)) := S4.out.o 5 (by omega)
  have me0 : W1.cell? ⟨w.heap.size + 2, 0, none⟩ = some (.int .i64 s) := S4.out.e0
  have me1 : W1.cell? ⟨w.heap.size + 2, 1, none⟩ = some (.int .i64 x) := S4.out.e1
  have DR : Hid (∀ V, Below W1.heap.size W1.drew V → S3 w V b ⟨R.text, s, x, R.ch, R.kn⟩ p q s x) := fun V hb => S4.out.more ⟨hb.os, hb.tape, hb.output, hb.size, hb.block⟩
  go_region_law (first
    | (go_simp; go_at_call 55; refine (Alone_fn s x _ hs).mono ?_; (try clear ma0 ma1 ma2 ma3 ma4 ma5 mo0 mo1 mo2 mo3 mo4 mo5 me0 me1); rintro e w2 ⟨rfl, hb2⟩; have S5 := hide (DR.out _ hb2); have na0 : w2.cell? ⟨w.heap.size, 3, none⟩ = some (.int .i64 (p.ch 0)) := S5.out.a 0 (by omega); have na1 : w2.cell? ⟨w.heap.size, 4, none⟩ = some (.int .i64 (p.ch 1)) := S5.out.a 1 (by omega); have na2 : w2.cell? ⟨w.heap.size, 5, none⟩ = some (.int .i64 (p.ch 2)) := S5.out.a 2 (by omega); have na3 : w2.cell? ⟨w.heap.size, 6, none⟩ = some (.int .i64 (p.ch 3)) := S5.out.a 3 (by omega); have na4 : w2.cell? ⟨w.heap.size, 7, none⟩ = some (.int .i64 (p.ch 4)) := S5.out.a 4 (by omega); have na5 : w2.cell? ⟨w.heap.size, 8, none⟩ = some (.int .i64 (p.ch 5)) := S5.out.a 5 (by omega); have no0 : w2.cell? ⟨w.heap.size + 1, 3, none⟩ = some (.int .i64 (q.ch 0)) := S5.out.o 0 (by omega); have no1 : w2.cell? ⟨w.heap.size + 1, 4, none⟩ = some (.int .i64 (q.ch 1)) := S5.out.o 1 (by omega); have no2 : w2.cell? ⟨w.heap.size + 1, 5, none⟩ = some (.int .i64 (q.ch 2)) := S5.out.o 2 (by omega); have no3 : w2.cell? ⟨w.heap.size + 1, 6, none⟩ = some (.int .i64 (q.ch 3)) := S5.out.o 3 (by omega); have no4 : w2.cell? ⟨w.heap.size + 1, 7, none⟩ = some (.int .i64 (q.ch 4)) := S5.out.o 4 (by omega); have no5 : w2.cell? ⟨w.heap.size + 1, 8, none⟩ = some (.int .i64 (q.ch 5)) := S5.out.o 5 (by omega); have ne0 : w2.cell? ⟨w.heap.size + 2, 0, none⟩ = some (.int .i64 s) := S5.out.e0; have ne1 : w2.cell? ⟨w.heap.size + 2, 1, none⟩ = some (.int .i64 x) := S5.out.e1; have KB := hide (built18 w2 p.ch q.ch (tf s x) 108); clear hb2; dsimp only)
    | (go_simp; go_at_call 70; refine (Greatest_three w2.heap.size 3 p.ch q.ch (tf s x) _ (by simp) (by exact KB.out.1) (by exact KB.out.2.1) (by exact KB.out.2.2)).mono ?_; rintro e w3 ⟨rfl, hb3⟩; have S6 := hide ((S5.out.more ((Below.refl _ _).alloc (Nat.le_refl _) (.cells #[.int .i64 (p.ch 0), .int .i64 (p.ch 1), .int .i64 (p.ch 2), .int .i64 (p.ch 3), .int .i64 (p.ch 4), .int .i64 (p.ch 5), .int .i64 (q.ch 0), .int .i64 (q.ch 1), .int .i64 (q.ch 2), .int .i64 (q.ch 3), .int .i64 (q.ch 4), .int .i64 (q.ch 5), .int .i64 ((tf s x) 0), .int .i64 ((tf s x) 1), .int .i64 ((tf s x) 2), .int .i64 ((tf s x) 3), .int .i64 ((tf s x) 4), .int .i64 ((tf s x) 5)] 108))).more hb3); have dth := S6.out.rc.there36; clear hb3; dsimp only))
  all_goals go_wp2
  all_goals go_end0
  all_goals exact ⟨rfl, S6.out.rc.setCh (g3 p.ch q.ch (tf s x)), S6.out.fr.setCells b 3 _ (.inl rfl)⟩
theorem settle_any (b : Nat) (R p q : Rec) (s : Nat) (hs : s < 6) (x : Int) (w : World) (h : RecAt w b R) :
    Calls Tryz.prog 66 #[.pointer (some ⟨b, 0, none⟩), fileVal p, fileVal q, .agg #[.int .i64 s, .int .i64 x]] w fun e w' => e = .returned (.tuple #[]) ∧ RecAt w' b (settled s x p q R) ∧ Fr (fun k => k = b) w w' := by
  unfold settled
  cases hn : decide (0 < R.bn)
  · simpa using settle_no b R p q s x w h hn
  · simpa using settle_yes b R p q s hs x w h hn
end Go.Proofs.YtaelaldmibgibaaGreat

namespace Go.Proofs.YtaelaldmibgibaaGreat
open Go.RowKit Go.Maps

structure Sg (w V : World) (rb s mb b : Nat) (cm : Nat → Int) (E : Recs) (R : Rec) (eb : Nat) (eo : Option Obj) : Prop where
  rc : RecAt V b R
  rep : RepAt V rb s cm mb
  own : V.ownsMap Tryz.prog 9 recElem mb E.length (datOf E)
  fr : Fr (fun k => k = rb ∨ k = mb) w V
  rlt : rb < w.heap.size
  mlt : mb < w.heap.size
  bge : w.heap.size ≤ b
  ev : ∀ o, eo = some o → V.heap[eb]? = some o ∧ eb ≠ b ∧ w.heap.size ≤ eb

section
variable {w V V' : World} {rb s mb b : Nat} {cm : Nat → Int} {E : Recs} {R R' : Rec} {eb : Nat} {eo : Option Obj}

theorem Sg.elt (S : Sg w V rb s mb b cm E R eb eo) (o : Obj) (ho : eo = some o) : eb < V.heap.size := (Array.getElem?_eq_some_iff.1 (S.ev o ho).1).1
theorem Sg.below (S : Sg w V rb s mb b cm E R eb eo) (hb : Below V.heap.size V V') : Sg w V' rb s mb b cm E R eb eo :=
  ⟨S.rc.more hb, S.rep.keep (hb.block _ S.rep.lt), ownsMap_keep S.own (hb.block _ S.own.lt), S.fr.trans (Fr.of_below hb), S.rlt, S.mlt, S.bge, fun o ho => ⟨by rw [hb.block _ (S.elt o ho)]; exact (S.ev o ho).1, (S.ev o ho).2⟩⟩
theorem Sg.drewN (S : Sg w V rb s mb b cm E R eb eo) (k : Nat) : Sg w (V.drewN k) rb s mb b cm E R eb eo := S.below ⟨rfl, rfl, rfl, Nat.le_refl _, fun _ _ => rfl⟩
theorem Sg.onRec (S : Sg w V rb s mb b cm E R eb eo) (hf : Fr (fun k => k = b) V V') (hr : RecAt V' b R') : Sg w V' rb s mb b cm E R' eb eo := by
  have h1 : rb ≠ b := by have := S.rlt; have := S.bge; omega
  have h2 : mb ≠ b := by have := S.mlt; have := S.bge; omega
  refine ⟨hr, S.rep.keep (hf.block _ S.rep.lt h1), ownsMap_keep S.own (hf.block _ S.own.lt h2), S.fr.trans' hf (fun i hi e => by have := S.bge; omega), S.rlt, S.mlt, S.bge, fun o ho => ?_⟩
  obtain ⟨e1, e2, e3⟩ := S.ev o ho
  exact ⟨by rw [hf.block _ (S.elt o ho) e2]; exact e1, e2, e3⟩
theorem Sg.alloc_ev (S : Sg w V rb s mb b cm E R eb eo) (o : Obj) : Sg w (V.alloc o) rb s mb b cm E R V.heap.size (some o) := by
  have hb : Below V.heap.size V (V.alloc o) := (Below.refl _ _).alloc (Nat.le_refl _) o
  refine ⟨S.rc.more hb, S.rep.keep (hb.block _ S.rep.lt), ownsMap_keep S.own (hb.block _ S.own.lt), S.fr.trans (Fr.of_below hb), S.rlt, S.mlt, S.bge, fun o' ho => ?_⟩
  cases ho
  exact ⟨heap_alloc_new _ _, by have := S.rc.lt; omega, S.fr.size⟩
theorem Sg.start {w1 : World} (h : Rg w rb s cm mb E) (hb : Below w.heap.size w w1) (R : Rec) :
    Sg w (w1.alloc (.cells #[.string R.text, .int .i64 R.br, .int .i64 R.bn, .int .i64 (R.ch 0), .int .i64 (R.ch 1), .int .i64 (R.ch 2), .int .i64 (R.ch 3), .int .i64 (R.ch 4), .int .i64 (R.ch 5), .int .i64 (R.kn 0), .int .i64 (R.kn 1), .int .i64 (R.kn 2), .int .i64 (R.kn 3), .int .i64 (R.kn 4), .int .i64 (R.kn 5)] 120)) rb s mb w1.heap.size cm E R 0 none := by
  have h1 := h.below hb
  have hz := hb.size
  exact ⟨⟨heap_alloc_new _ _⟩, h1.rep.keep (Below.heap_alloc _ _ _ h1.rep.lt), ownsMap_keep h1.own (Below.heap_alloc _ _ _ h1.own.lt), (Fr.of_below hb).alloc _, h.rep.lt, h.own.lt, hz, fun o ho => by cases ho⟩

theorem Sg.full (S : Sg w V rb s mb b cm E R eb eo) : Calls Tryz.prog 49 #[.pointer (some ⟨rb, 0, none⟩)] V fun e w' => e = .returned (.bool (decide (1000000000 ≤ cm s))) ∧ Sg w w' rb s mb b cm E R eb eo := by
  refine (countIsFull_any rb s cm mb V S.rep).mono ?_
  rintro e w' ⟨rfl, nq, rfl⟩
  exact ⟨rfl, S.drewN nq⟩
theorem Sg.there (S : Sg w V rb s mb b cm E R eb eo) : Calls Tryz.prog 60 #[.agg #[.string R.text, .int .i64 R.br, .int .i64 R.bn, .int .i64 (R.ch 0), .int .i64 (R.ch 1), .int .i64 (R.ch 2), .int .i64 (R.ch 3), .int .i64 (R.ch 4), .int .i64 (R.ch 5)]] V fun e w' => e = .returned (.bool (decide (0 < R.bn))) ∧ Sg w w' rb s mb b cm E R eb eo := by
  refine (isThere_any _ _ _ _ _ _ _ _ _ V).mono ?_
  rintro e w' ⟨rfl, hb⟩
  exact ⟨rfl, S.below hb⟩
theorem Sg.files (S : Sg w V rb s mb b cm E R eb eo) (h : Rg w rb s cm mb E) : Calls Tryz.prog 69 #[.pointer (some ⟨rb, 0, none⟩)] V fun e w' => e = .returned (.int .i64 (thereE E).length) ∧ Sg w w' rb s mb b cm E R eb eo := by
  refine (pfiles_gen rb s cm mb V S.rep E h.ris (by have := h.len; omega) S.own).mono ?_
  rintro e w' ⟨rfl, hb⟩
  exact ⟨rfl, S.below hb⟩
theorem Sg.next (S : Sg w V rb s mb b cm E R eb eo) (h0 : 0 ≤ cm s) (hc : cm s < 1000000000) : Calls Tryz.prog 51 #[.pointer (some ⟨rb, 0, none⟩)] V fun e w' => e = .returned (.agg #[.int .i64 s, .int .i64 (cm s + 1)]) ∧ Sg w w' rb s mb b (gboth cm (tf s (cm s + 1))) E R eb eo := by
  refine (next_any rb s cm mb V S.rep h0 hc).mono ?_
  rintro e w' ⟨rfl, hr, hf⟩
  have h1 : b ≠ rb := by have := S.rlt; have := S.bge; omega
  have h2 := (S.rep.ne S.own).symm
  refine ⟨rfl, S.rc.keep (hf.block _ S.rc.lt h1), hr, ownsMap_keep S.own (hf.block _ S.own.lt h2), S.fr.trans (hf.mono (fun k _ e => .inl e)), S.rlt, S.mlt, S.bge, fun o ho => ?_⟩
  obtain ⟨e1, e2, e3⟩ := S.ev o ho
  have := S.rlt
  exact ⟨by rw [hf.block _ (S.elt o ho) (by omega)]; exact e1, e2, e3⟩
theorem Sg.clone (S : Sg w V rb s mb b cm E R eb eo) (t : ByteArray) (ht : t.size ≤ 1000000000000) : Calls Tryz.prog 53 #[.string t] V fun e w' => e = .returned (.string t) ∧ Sg w w' rb s mb b cm E R eb eo := by
  refine (clone_any t V ht).mono ?_
  rintro e w' ⟨rfl, hb⟩
  exact ⟨rfl, S.below hb⟩
theorem Sg.write (S : Sg w V rb s mb b cm E R eb eo) (x : Int) (t : ByteArray) (hbn : 0 ≤ R.bn) : Calls Tryz.prog 52 #[.pointer (some ⟨b, 0, none⟩), .string t, .agg #[.int .i64 s, .int .i64 x]] V fun e w' => e = .returned (.tuple #[]) ∧ Sg w w' rb s mb b cm E (wrote s x t R) eb eo := by
  refine (write_rec b s x t R S.rep.hs V S.rc hbn).mono ?_
  rintro e w' ⟨rfl, hr, hf⟩
  exact ⟨rfl, S.onRec hf hr⟩
theorem Sg.remove (S : Sg w V rb s mb b cm E R eb eo) : Calls Tryz.prog 61 #[.pointer (some ⟨b, 0, none⟩)] V fun e w' => e = .returned (.tuple #[]) ∧ Sg w w' rb s mb b cm E ⟨⟨#[]⟩, 0, 0, fun _ => 0, R.kn⟩ eb eo := by
  refine (remove_rec b R V S.rc).mono ?_
  rintro e w' ⟨rfl, hr, hf⟩
  exact ⟨rfl, S.onRec hf hr⟩
theorem Sg.alone (S : Sg w V rb s mb b cm E R eb eo) (x : Int) : Calls Tryz.prog 55 #[.agg #[.int .i64 s, .int .i64 x]] V fun e w' => e = .returned (.agg #[.int .i64 (tf s x 0), .int .i64 (tf s x 1), .int .i64 (tf s x 2), .int .i64 (tf s x 3), .int .i64 (tf s x 4), .int .i64 (tf s x 5)]) ∧ Sg w w' rb s mb b cm E R eb eo := by
  refine (Alone_fn s x V S.rep.hs).mono ?_
  rintro e w' ⟨rfl, hb⟩
  exact ⟨rfl, S.below hb⟩
theorem Sg.hear (S : Sg w V rb s mb b cm E R eb eo) (u : Nat → Int) (ty : TypeId) : Calls Tryz.prog 54 #[.pointer (some ⟨b, 9, none⟩), .slice (some ⟨V.heap.size, 0, none⟩) 1 1] (V.alloc (.cells #[.int .i64 (u 0), .int .i64 (u 1), .int .i64 (u 2), .int .i64 (u 3), .int .i64 (u 4), .int .i64 (u 5)] ty)) fun e w' => e = .returned (.tuple #[]) ∧ Sg w w' rb s mb b cm E ⟨R.text, R.br, R.bn, R.ch, gboth R.kn u⟩ eb eo := by
  have S' := S.below ((Below.refl _ _).alloc (Nat.le_refl _) (.cells #[.int .i64 (u 0), .int .i64 (u 1), .int .i64 (u 2), .int .i64 (u 3), .int .i64 (u 4), .int .i64 (u 5)] ty))
  refine (hear_rec b V.heap.size 1 u R _ S'.rc (by simp) (built6 V u ty)).mono ?_
  rintro e w' ⟨rfl, hr, hf⟩
  exact ⟨rfl, S'.onRec hf hr⟩
set_option maxRecDepth 100000 in
set_option maxHeartbeats 1000000 in
theorem Sg.room (S : Sg w V rb s mb b cm E R eb eo) (h : Rg w rb s cm mb E) (rm : Bool) (hrm : (!decide (0 < R.bn) && decide ((20 : Int) ≤ ((thereE E).length : Int))) = rm) : Calls Tryz.prog 50 #[.pointer (some ⟨rb, 0, none⟩), .agg #[.string R.text, .int .i64 R.br, .int .i64 R.bn, .int .i64 (R.ch 0), .int .i64 (R.ch 1), .int .i64 (R.ch 2), .int .i64 (R.ch 3), .int .i64 (R.ch 4), .int .i64 (R.ch 5), .int .i64 (R.kn 0), .int .i64 (R.kn 1), .int .i64 (R.kn 2), .int .i64 (R.kn 3), .int .i64 (R.kn 4), .int .i64 (R.kn 5)]] V fun e w' => e = .returned (.bool rm) ∧ Sg w w' rb s mb b cm E R eb eo := by
  have S1 := hide (S.below ((Below.refl _ _).alloc (Nat.le_refl _) (.cells #[.string R.text, .int .i64 R.br, .int .i64 R.bn, .int .i64 (R.ch 0), .int .i64 (R.ch 1), .int .i64 (R.ch 2), .int .i64 (R.ch 3), .int .i64 (R.ch 4), .int .i64 (R.ch 5), .int .i64 (R.kn 0), .int .i64 (R.kn 1), .int .i64 (R.kn 2), .int .i64 (R.kn 3), .int .i64 (R.kn 4), .int .i64 (R.kn 5)] 120)))
  have H := hide h
  obtain ⟨k0, k1, k2, k3, k4, k5, k6, k7, k8, _⟩ := (⟨heap_alloc_new V _⟩ : RecAt (V.alloc (.cells #[.string R.text, .int .i64 R.br, .int .i64 R.bn, .int .i64 (R.ch 0), .int .i64 (R.ch 1), .int .i64 (R.ch 2), .int .i64 (R.ch 3), .int .i64 (R.ch 4), .int .i64 (R.ch 5), .int .i64 (R.kn 0), .int .i64 (R.kn 1), .int .i64 (R.kn 2), .int .i64 (R.kn 3), .int .i64 (R.kn 4), .int .i64 (R.kn 5)] 120)) V.heap.size R).cells
  clear S h
  cases hd : decide (0 < R.bn)
  all_goals
    rw [hd] at hrm
    have HR := hide hrm
    clear hrm
    go_enter Tryz.func50, Tryz.ntmps50
    go_wp2_with (first
      | (go_at_call 60; refine S1.out.there.mono ?_; rintro e w3 ⟨rfl, S3r⟩; have S3 := hide S3r; clear S3r)
      | (go_at_call 69; refine (S3.out.files H.out).mono ?_; rintro e w4 ⟨rfl, S4r⟩; have S4 := hide S4r; clear S4r))
    go_ret
    refine ⟨?_, by first | exact S4.out | exact S3.out⟩
    rw [← HR.out]
    rfl
/-- the end: the record is kept, or dropped -/
theorem Sg.keepAll (S : Sg w V rb s mb b cm E R eb eo) {cm0 : Nat → Int} (h : Rg w rb s cm0 mb E) (hc : 0 ≤ cm s) (p : ByteArray) (hp : p.size ≤ 1000000000000) (h0 : 0 ≤ R.bn) (hbr : brOk R) (hl : E.length < 999999) :
    Calls Tryz.prog 56 #[.pointer (some ⟨rb, 0, none⟩), .string p, .agg #[.string R.text, .int .i64 R.br, .int .i64 R.bn, .int .i64 (R.ch 0), .int .i64 (R.ch 1), .int .i64 (R.ch 2), .int .i64 (R.ch 3), .int .i64 (R.ch 4), .int .i64 (R.ch 5), .int .i64 (R.kn 0), .int .i64 (R.kn 1), .int .i64 (R.kn 2), .int .i64 (R.kn 3), .int .i64 (R.kn 4), .int .i64 (R.kn 5)]] V fun e w' => e = .returned (.tuple #[]) ∧ Rg w' rb s cm mb (keepE cm p R E) ∧ Fr (fun k => k = rb ∨ k = mb) w w' := by
  refine (keepG_any rb s cm mb E V S.rep S.own h.ris (by have := h.len; unfold maxLen; omega) p hp R h0).mono ?_
  rintro e w' ⟨rfl, hr, ho, hf⟩
  refine ⟨rfl, ⟨hr, ho, keepE_rising cm p R E h.ris, fun x hx => ?_, ?_, hc⟩, S.fr.trans (hf.mono (fun k _ e => .inr e))⟩
  · rcases keepE_mem hx with rfl | hx
    · exact ⟨h0, hbr⟩
    · exact h.bn x hx
  · have := keepE_len cm p R E
    omega
end

end Go.Proofs.YtaelaldmibgibaaGreat

namespace Go.Proofs.YtaelaldmibgibaaGreat
open Go.RowKit Go.Maps

set_option maxRecDepth 100000 in
set_option maxHeartbeats 800000 in
theorem rread_some (rb s : Nat) (cm : Nat → Int) (mb : Nat) (E : Recs) (w : World) (h : Rg w rb s cm mb E) (p : ByteArray) (hp : p.size ≤ maxLen) (hg : 0 < (recG s cm (getE p E)).bn) :
    Calls Tryz.prog 42 #[.pointer (some ⟨rb, 0, none⟩), .string p] w fun e w' => e = .returned (.tuple #[.string (recG s cm (getE p E)).text, .int .i64 0]) ∧ Below w.heap.size w w' := by
  have C := recordG_any rb s cm mb E w h.rep h.own p hp
  generalize recG s cm (getE p E) = R at *
  have hd0 : decide (0 < R.bn) = true := by simp [hg]
  simp only [recVal] at C
  have CH := hide C
  clear C hg h
  go_enter Tryz.func42, Tryz.ntmps42
  go_wp2_with (first
    | (go_at_call 48; refine CH.out.mono ?_; rintro e w1 ⟨rfl, hb1r⟩; have hb1 := hide hb1r; clear hb1r)
    | (go_at_call 60; refine (isThere_any _ _ _ _ _ _ _ _ _ _).mono ?_; rintro e w2 ⟨rfl, hb2r⟩; have t0 : w2.cell? ⟨w1.heap.size, 0, none⟩ = some (.string R.text) := (hb2r.cell (p := ⟨w1.heap.size, 0, none⟩) (by simp)).trans (by simp [go_sem]); have hb2 := hide (below_more hb1.out hb2r); clear hb2r))
  go_ret2
  exact ⟨rfl, hb2.out⟩
set_option maxRecDepth 100000 in
set_option maxHeartbeats 800000 in
theorem rread_none (rb s : Nat) (cm : Nat → Int) (mb : Nat) (E : Recs) (w : World) (h : Rg w rb s cm mb E) (p : ByteArray) (hp : p.size ≤ maxLen) (hg : ¬ 0 < (recG s cm (getE p E)).bn) :
    Calls Tryz.prog 42 #[.pointer (some ⟨rb, 0, none⟩), .string p] w fun e w' => e = .returned (.tuple #[.string ⟨#[]⟩, .int .i64 4]) ∧ Below w.heap.size w w' := by
  have C := recordG_any rb s cm mb E w h.rep h.own p hp
  generalize recG s cm (getE p E) = R at *
  have hd0 : decide (0 < R.bn) = false := by simp [hg]
  simp only [recVal] at C
  have CH := hide C
  clear C hg h
  go_enter Tryz.func42, Tryz.ntmps42
  go_wp2_with (first
    | (go_at_call 48; refine CH.out.mono ?_; rintro e w1 ⟨rfl, hb1r⟩; have hb1 := hide hb1r; clear hb1r)
    | (go_at_call 60; refine (isThere_any _ _ _ _ _ _ _ _ _ _).mono ?_; rintro e w2 ⟨rfl, hb2r⟩; have hb2 := hide (below_more hb1.out hb2r); clear hb2r))
  go_ret2
  exact ⟨rfl, hb2.out⟩

theorem tf_self (s : Nat) (c : Int) (hs : s < 6) : tf s c s = c := by
  unfold tf one
  match s, hs with
  | 0, _ | 1, _ | 2, _ | 3, _ | 4, _ | 5, _ => rfl
/-- what the replica knows behind an event of its own -/
def nxG (s : Nat) (cm : Nat → Int) : Nat → Int := gboth cm (tf s (cm s + 1))
/-- is there no room for a file of this record? -/
def noRoom (R : Rec) (E : Recs) : Bool := !decide (0 < R.bn) && decide ((20 : Int) ≤ ((thereE E).length : Int))
/-- the record that Write keeps -/
def writtenG (s : Nat) (x : Int) (t : ByteArray) (R : Rec) : Rec := ⟨t, (wrote s x t R).br, (wrote s x t R).bn, (wrote s x t R).ch, gboth R.kn (tf s x)⟩
theorem nxG_self (s : Nat) (hs : s < 6) (cm : Nat → Int) (h0 : 0 ≤ cm s) : nxG s cm s = cm s + 1 := by
  unfold nxG gboth g1 zer
  rw [tf_self s _ hs]
  (repeat' split) <;> omega
set_option maxRecDepth 100000 in
set_option maxHeartbeats 1000000 in
theorem rwrite_full (rb s : Nat) (cm : Nat → Int) (mb : Nat) (E : Recs) (w : World) (h : Rg w rb s cm mb E) (p t : ByteArray) (hp : p.size ≤ 1000000000000) (hf : 1000000000 ≤ cm s ∨ noRoom (recG s cm (getE p E)) E = true) :
    Calls Tryz.prog 30 #[.pointer (some ⟨rb, 0, none⟩), .string p, .string t] w fun e w' => e = .returned (.int .i64 5) ∧ Rg w' rb s cm mb E ∧ Fr (fun k => k = rb ∨ k = mb) w w' := by
  have C := recordG_any rb s cm mb E w h.rep h.own p (by unfold maxLen; omega)
  have fin : Hid (∀ V b R eb eo, Sg w V rb s mb b cm E R eb eo → Rg V rb s cm mb E ∧ Fr (fun k => k = rb ∨ k = mb) w V) := fun V b R eb eo S => ⟨⟨S.rep, S.own, h.ris, h.bn, h.len, h.c0⟩, S.fr⟩
  have H := hide h
  generalize recG s cm (getE p E) = R1 at C hf
  simp only [recVal] at C
  have CH := hide C
  by_cases hc : 1000000000 ≤ cm s
  · have hd : decide (1000000000 ≤ cm s) = true := by simp [hc]
    clear C h hf
    go_enter Tryz.func30, Tryz.ntmps30
    go_wp2_with (first
      | (go_at_call 48; refine CH.out.mono ?_; rintro e w1 ⟨rfl, hb1r⟩; have S1 := hide (Sg.start H.out hb1r R1); clear hb1r)
      | (go_at_call 49; refine S1.out.full.mono ?_; rintro e w2 ⟨rfl, S2r⟩; have S2 := hide S2r; clear S2r))
    go_ret
    exact ⟨rfl, fin.out _ _ _ _ _ S2.out⟩
  · have hrm := hf.resolve_left hc
    unfold noRoom at hrm
    have hd : decide (1000000000 ≤ cm s) = false := by simp; omega
    have HRM := hide hrm
    clear C h hf hc hrm
    go_enter Tryz.func30, Tryz.ntmps30
    go_wp2_with (first
      | (go_at_call 48; refine CH.out.mono ?_; rintro e w1 ⟨rfl, hb1r⟩; have S1 := hide (Sg.start H.out hb1r R1); clear hb1r)
      | (go_at_call 49; refine S1.out.full.mono ?_; rintro e w2 ⟨rfl, S2r⟩; have S2 := hide S2r; obtain ⟨k0, k1, k2, k3, k4, k5, k6, k7, k8, k9, k10, k11, k12, k13, k14⟩ := S2r.rc.cells; clear S2r)
      | (go_at_call 50; refine (S2.out.room H.out true HRM.out).mono ?_; rintro e w4 ⟨rfl, S4r⟩; have S4 := hide S4r; clear S4r))
    go_ret
    exact ⟨rfl, fin.out _ _ _ _ _ S4.out⟩

/-- the event, read -/
theorem Sg.evCells {w V : World} {rb s mb b : Nat} {cm : Nat → Int} {E : Recs} {R : Rec} {eb : Nat} {x : Int} (S : Sg w V rb s mb b cm E R eb (some (.cells #[.int .i64 s, .int .i64 x] 114))) :
    V.cell? ⟨eb, 0, none⟩ = some (.int .i64 s) ∧ V.cell? ⟨eb, 1, none⟩ = some (.int .i64 x) := by
  have h := (S.ev _ rfl).1
  constructor
  · simp only [World.cell?, h]; rfl
  · simp only [World.cell?, h]; rfl
theorem written_ok {s : Nat} {x : Int} {t : ByteArray} {R : Rec} (hs : s < 6) (hx : 0 < x) (h0 : 0 ≤ R.bn) (hb : brOk R) : 0 ≤ (writtenG s x t R).bn ∧ brOk (writtenG s x t R) := by
  unfold writtenG wrote brOk
  constructor
  · show 0 ≤ (if 0 < R.bn then R.bn else x)
    split <;> omega
  · show ∃ r : Nat, r < 6 ∧ (if 0 < R.bn then R.br else (s : Int)) = r
    split
    · exact hb
    · exact ⟨s, hs, rfl⟩
set_option maxRecDepth 100000 in
set_option maxHeartbeats 2000000 in
theorem rwrite_ok (rb s : Nat) (cm : Nat → Int) (mb : Nat) (E : Recs) (w : World) (h : Rg w rb s cm mb E) (hl : E.length < 999999) (p t : ByteArray) (hp : p.size ≤ 1000000000000) (ht : t.size ≤ 1000000000000) (hc : cm s < 1000000000) (hrm : noRoom (recG s cm (getE p E)) E = false) :
    Calls Tryz.prog 30 #[.pointer (some ⟨rb, 0, none⟩), .string p, .string t] w fun e w' => e = .returned (.int .i64 0) ∧ Rg w' rb s (nxG s cm) mb (keepE (nxG s cm) p (writtenG s (cm s + 1) t (recG s cm (getE p E))) E) ∧ Fr (fun k => k = rb ∨ k = mb) w w' := by
  have C := recordG_any rb s cm mb E w h.rep h.own p (by unfold maxLen; omega)
  have H := hide h
  have hc0 := h.c0
  have hs := h.rep.hs
  have hns := nxG_self s hs cm hc0
  obtain ⟨hb0, hbr⟩ := recG_ok h p
  have hd : decide (1000000000 ≤ cm s) = false := by simp; omega
  generalize recG s cm (getE p E) = R1 at *
  simp only [recVal] at C
  have CH := hide C
  have HB0 := hide hb0
  have KI : Hid (∀ V b eb eo, Sg w V rb s mb b (gboth cm (tf s (cm s + 1))) E ⟨(wrote s (cm s + 1) t R1).text, (wrote s (cm s + 1) t R1).br, (wrote s (cm s + 1) t R1).bn, (wrote s (cm s + 1) t R1).ch, gboth (wrote s (cm s + 1) t R1).kn (tf s (cm s + 1))⟩ eb eo → Calls Tryz.prog 56 #[.pointer (some ⟨rb, 0, none⟩), .string p, .agg #[.string (wrote s (cm s + 1) t R1).text, .int .i64 (wrote s (cm s + 1) t R1).br, .int .i64 (wrote s (cm s + 1) t R1).bn, .int .i64 ((wrote s (cm s + 1) t R1).ch 0), .int .i64 ((wrote s (cm s + 1) t R1).ch 1), .int .i64 ((wrote s (cm s + 1) t R1).ch 2), .int .i64 ((wrote s (cm s + 1) t R1).ch 3), .int .i64 ((wrote s (cm s + 1) t R1).ch 4), .int .i64 ((wrote s (cm s + 1) t R1).ch 5), .int .i64 (gboth (wrote s (cm s + 1) t R1).kn (tf s (cm s + 1)) 0), .int .i64 (gboth (wrote s (cm s + 1) t R1).kn (tf s (cm s + 1)) 1), .int .i64 (gboth (wrote s (cm s + 1) t R1).kn (tf s (cm s + 1)) 2), .int .i64 (gboth (wrote s (cm s + 1) t R1).kn (tf s (cm s + 1)) 3), .int .i64 (gboth (wrote s (cm s + 1) t R1).kn (tf s (cm s + 1)) 4), .int .i64 (gboth (wrote s (cm s + 1) t R1).kn (tf s (cm s + 1)) 5)]] V fun e w' => e = .returned (.tuple #[]) ∧ Rg w' rb s (nxG s cm) mb (keepE (nxG s cm) p (writtenG s (cm s + 1) t R1) E) ∧ Fr (fun k => k = rb ∨ k = mb) w w') := by
    intro V b eb eo S
    have hw := written_ok (t := t) hs (by omega : 0 < cm s + 1) hb0 hbr
    exact S.keepAll H.out (by show 0 ≤ nxG s cm s; rw [hns]; omega) p hp hw.1 hw.2 hl
  clear C h hb0 hbr hns hl
  unfold noRoom at hrm
  have HRM := hide hrm
  clear hrm
  generalize keepE (nxG s cm) p (writtenG s (cm s + 1) t R1) E = E' at KI ⊢
  go_enter Tryz.func30, Tryz.ntmps30
  go_wp2_with (first
    | (go_at_call 48; refine CH.out.mono ?_; rintro e w1 ⟨rfl, hb1r⟩; have S1 := hide (Sg.start H.out hb1r R1); clear hb1r)
    | (go_at_call 49; refine S1.out.full.mono ?_; rintro e w2 ⟨rfl, S2r⟩; have S2 := hide S2r; obtain ⟨k0, k1, k2, k3, k4, k5, k6, k7, k8, k9, k10, k11, k12, k13, k14⟩ := S2r.rc.cells; clear S2r)
    | (go_at_call 50; refine (S2.out.room H.out false HRM.out).mono ?_; rintro e w4 ⟨rfl, S4r⟩; have S4 := hide S4r; clear S4r)
    | (go_at_call 51; refine (S4.out.next hc0 hc).mono ?_; rintro e w5 ⟨rfl, S5r⟩; have S5 := hide S5r; clear S5r))
  clear k0 k1 k2 k3 k4 k5 k6 k7 k8 k9 k10 k11 k12 k13 k14
  have SE := hide ((S5.out.alloc_ev (.cells #[.int .i64 s, .int .i64 (cm s + 1)] 114)).drewN 1)
  have hbn1 := HB0.out
  go_region_law (first
    | (go_simp; go_at_call 53; refine (SE.out.clone t ht).mono ?_; rintro e w6 ⟨rfl, S6r⟩; have S6 := hide S6r; obtain ⟨f0, f1⟩ := S6r.evCells; clear S6r; dsimp only)
    | (go_simp; go_at_call 52; refine (S6.out.write (cm s + 1) t hbn1).mono ?_; rintro e w7 ⟨rfl, S7r⟩; have S7 := hide S7r; obtain ⟨g0, g1⟩ := S7r.evCells; clear S7r; dsimp only))
  all_goals
    clear f0 f1
    go_wp2_with (first
      | (go_at_call 55; refine (S7.out.alone (cm s + 1)).mono ?_; rintro e w8 ⟨rfl, S8r⟩; have S8 := hide S8r; clear S8r)
      | (go_at_call 54; refine (S8.out.hear (tf s (cm s + 1)) _).mono ?_; rintro e w9 ⟨rfl, S9r⟩; have S9 := hide S9r; obtain ⟨k0, k1, k2, k3, k4, k5, k6, k7, k8, k9, k10, k11, k12, k13, k14⟩ := S9r.rc.cells; dsimp only at k0 k1 k2 k3 k4 k5 k6 k7 k8 k9 k10 k11 k12 k13 k14; clear S9r)
      | (go_at_call 56; refine (KI.out _ _ _ _ S9.out).mono ?_; rintro e w10 ⟨rfl, hPr, hFr⟩; have HP := hide hPr; have HF := hide hFr; clear hPr hFr))
    go_ret
    exact ⟨rfl, HP.out, HF.out⟩

end Go.Proofs.YtaelaldmibgibaaGreat

namespace Go.Proofs.YtaelaldmibgibaaGreat
open Go.RowKit Go.Maps

/-- the record that Remove keeps, or drops -/
def removedG (s : Nat) (x : Int) (R : Rec) : Rec := ⟨⟨#[]⟩, 0, 0, fun _ => 0, gboth R.kn (tf s x)⟩
set_option maxRecDepth 100000 in
set_option maxHeartbeats 1000000 in
theorem rremove_none (rb s : Nat) (cm : Nat → Int) (mb : Nat) (E : Recs) (w : World) (h : Rg w rb s cm mb E) (p : ByteArray) (hp : p.size ≤ 1000000000000) (hn : ¬ 0 < (recG s cm (getE p E)).bn) :
    Calls Tryz.prog 40 #[.pointer (some ⟨rb, 0, none⟩), .string p] w fun e w' => e = .returned (.int .i64 4) ∧ Rg w' rb s cm mb E ∧ Fr (fun k => k = rb ∨ k = mb) w w' := by
  have C := recordG_any rb s cm mb E w h.rep h.own p (by unfold maxLen; omega)
  have fin : Hid (∀ V b R eb eo, Sg w V rb s mb b cm E R eb eo → Rg V rb s cm mb E ∧ Fr (fun k => k = rb ∨ k = mb) w V) := fun V b R eb eo S => ⟨⟨S.rep, S.own, h.ris, h.bn, h.len, h.c0⟩, S.fr⟩
  have H := hide h
  generalize recG s cm (getE p E) = R1 at C hn
  have hth : decide (0 < R1.bn) = false := by simp [hn]
  simp only [recVal] at C
  have CH := hide C
  clear C h hn
  go_enter Tryz.func40, Tryz.ntmps40
  go_wp2_with (first
    | (go_at_call 48; refine CH.out.mono ?_; rintro e w1 ⟨rfl, hb1r⟩; have S1 := hide (Sg.start H.out hb1r R1); clear hb1r)
    | (go_at_call 60; refine S1.out.there.mono ?_; rintro e w3 ⟨rfl, S3r⟩; have S3 := hide S3r; clear S3r))
  go_ret
  exact ⟨rfl, fin.out _ _ _ _ _ S3.out⟩

set_option maxRecDepth 100000 in
set_option maxHeartbeats 1000000 in
theorem rremove_full (rb s : Nat) (cm : Nat → Int) (mb : Nat) (E : Recs) (w : World) (h : Rg w rb s cm mb E) (p : ByteArray) (hp : p.size ≤ 1000000000000) (hn : 0 < (recG s cm (getE p E)).bn) (hc : 1000000000 ≤ cm s) :
    Calls Tryz.prog 40 #[.pointer (some ⟨rb, 0, none⟩), .string p] w fun e w' => e = .returned (.int .i64 5) ∧ Rg w' rb s cm mb E ∧ Fr (fun k => k = rb ∨ k = mb) w w' := by
  have C := recordG_any rb s cm mb E w h.rep h.own p (by unfold maxLen; omega)
  have fin : Hid (∀ V b R eb eo, Sg w V rb s mb b cm E R eb eo → Rg V rb s cm mb E ∧ Fr (fun k => k = rb ∨ k = mb) w V) := fun V b R eb eo S => ⟨⟨S.rep, S.own, h.ris, h.bn, h.len, h.c0⟩, S.fr⟩
  have H := hide h
  generalize recG s cm (getE p E) = R1 at C hn
  have hth : decide (0 < R1.bn) = true := by simp [hn]
  simp only [recVal] at C
  have CH := hide C
  have hd : decide (1000000000 ≤ cm s) = true := by simp [hc]
  clear C h hn
  go_enter Tryz.func40, Tryz.ntmps40
  go_wp2_with (first
    | (go_at_call 48; refine CH.out.mono ?_; rintro e w1 ⟨rfl, hb1r⟩; have S1 := hide (Sg.start H.out hb1r R1); clear hb1r)
    | (go_at_call 60; refine S1.out.there.mono ?_; rintro e w3 ⟨rfl, S3r⟩; have S3 := hide S3r; clear S3r)
    | (go_at_call 49; refine S3.out.full.mono ?_; rintro e w2 ⟨rfl, S2r⟩; have S2 := hide S2r; clear S2r))
  go_ret
  exact ⟨rfl, fin.out _ _ _ _ _ S2.out⟩

set_option maxRecDepth 100000 in
set_option maxHeartbeats 2000000 in
theorem rremove_ok (rb s : Nat) (cm : Nat → Int) (mb : Nat) (E : Recs) (w : World) (h : Rg w rb s cm mb E) (p : ByteArray) (hp : p.size ≤ 1000000000000) (hn : 0 < (recG s cm (getE p E)).bn) (hl : E.length < 999999) (hc : cm s < 1000000000) :
    Calls Tryz.prog 40 #[.pointer (some ⟨rb, 0, none⟩), .string p] w fun e w' => e = .returned (.int .i64 0) ∧ Rg w' rb s (nxG s cm) mb (keepE (nxG s cm) p (removedG s (cm s + 1) (recG s cm (getE p E))) E) ∧ Fr (fun k => k = rb ∨ k = mb) w w' := by
  have C := recordG_any rb s cm mb E w h.rep h.own p (by unfold maxLen; omega)
  have H := hide h
  have hc0 := h.c0
  have hs := h.rep.hs
  have hns := nxG_self s hs cm hc0
  generalize hR1 : recG s cm (getE p E) = R1 at C hn ⊢
  clear hR1
  have hth : decide (0 < R1.bn) = true := by simp [hn]
  simp only [recVal] at C
  have CH := hide C
  have hd : decide (1000000000 ≤ cm s) = false := by simp; omega
  have KO : Hid (∀ V b eb eo, Sg w V rb s mb b (gboth cm (tf s (cm s + 1))) E ⟨⟨#[]⟩, 0, 0, fun _ => 0, gboth R1.kn (tf s (cm s + 1))⟩ eb eo → Calls Tryz.prog 56 #[.pointer (some ⟨rb, 0, none⟩), .string p, .agg #[.string ⟨#[]⟩, .int .i64 0, .int .i64 0, .int .i64 0, .int .i64 0, .int .i64 0, .int .i64 0, .int .i64 0, .int .i64 0, .int .i64 (gboth R1.kn (tf s (cm s + 1)) 0), .int .i64 (gboth R1.kn (tf s (cm s + 1)) 1), .int .i64 (gboth R1.kn (tf s (cm s + 1)) 2), .int .i64 (gboth R1.kn (tf s (cm s + 1)) 3), .int .i64 (gboth R1.kn (tf s (cm s + 1)) 4), .int .i64 (gboth R1.kn (tf s (cm s + 1)) 5)]] V fun e w' => e = .returned (.tuple #[]) ∧ Rg w' rb s (nxG s cm) mb (keepE (nxG s cm) p (removedG s (cm s + 1) R1) E) ∧ Fr (fun k => k = rb ∨ k = mb) w w') :=
    fun V b eb eo S => S.keepAll H.out (by show 0 ≤ nxG s cm s; rw [hns]; omega) p hp (Int.le_refl 0) ⟨0, by omega, rfl⟩ hl
  clear C h hn hns hl
  go_enter Tryz.func40, Tryz.ntmps40
  go_wp2_with (first
    | (go_at_call 48; refine CH.out.mono ?_; rintro e w1 ⟨rfl, hb1r⟩; have S1 := hide (Sg.start H.out hb1r R1); clear hb1r)
    | (go_at_call 60; refine S1.out.there.mono ?_; rintro e w3 ⟨rfl, S3r⟩; have S3 := hide S3r; clear S3r)
    | (go_at_call 49; refine S3.out.full.mono ?_; rintro e w2 ⟨rfl, S2r⟩; have S2 := hide S2r; clear S2r)
    | (go_at_call 51; refine (S2.out.next hc0 hc).mono ?_; rintro e w5 ⟨rfl, S5r⟩; have S5 := hide S5r; have SE := hide (S5r.alloc_ev (.cells #[.int .i64 s, .int .i64 (cm s + 1)] 114)); clear S5r)
    | (go_at_call 61; refine SE.out.remove.mono ?_; rintro e w7 ⟨rfl, S7r⟩; have S7 := hide S7r; obtain ⟨g0, g1⟩ := S7r.evCells; clear S7r)
    | (go_at_call 55; refine (S7.out.alone (cm s + 1)).mono ?_; rintro e w8 ⟨rfl, S8r⟩; have S8 := hide S8r; clear S8r)
    | (go_at_call 54; refine (S8.out.hear (tf s (cm s + 1)) _).mono ?_; rintro e w9 ⟨rfl, S9r⟩; have S9 := hide S9r; obtain ⟨k0, k1, k2, k3, k4, k5, k6, k7, k8, k9, k10, k11, k12, k13, k14⟩ := S9r.rc.cells; dsimp only at k0 k1 k2 k3 k4 k5 k6 k7 k8 k9 k10 k11 k12 k13 k14; clear S9r)
    | (go_at_call 56; refine (KO.out _ _ _ _ S9.out).mono ?_; rintro e w10 ⟨rfl, hPr, hFr⟩; have HP := hide hPr; have HF := hide hFr; clear hPr hFr))
  go_ret
  exact ⟨rfl, HP.out, HF.out⟩

end Go.Proofs.YtaelaldmibgibaaGreat

namespace Go.Proofs.YtaelaldmibgibaaGreat
open Go.RowKit Go.Maps

set_option maxRecDepth 100000 in
set_option maxHeartbeats 1000000 in
theorem room_rg (rb s : Nat) (cm : Nat → Int) (mb : Nat) (E : Recs) (w : World) (h : Rg w rb s cm mb E) (R : Rec) :
    Calls Tryz.prog 50 #[.pointer (some ⟨rb, 0, none⟩), recVal R] w fun e w' => e = .returned (.bool (noRoom R E)) ∧ Below w.heap.size w w' := by
  have B1 := hide ((Below.refl w.heap.size w).alloc (Nat.le_refl _) (.cells #[.string R.text, .int .i64 R.br, .int .i64 R.bn, .int .i64 (R.ch 0), .int .i64 (R.ch 1), .int .i64 (R.ch 2), .int .i64 (R.ch 3), .int .i64 (R.ch 4), .int .i64 (R.ch 5), .int .i64 (R.kn 0), .int .i64 (R.kn 1), .int .i64 (R.kn 2), .int .i64 (R.kn 3), .int .i64 (R.kn 4), .int .i64 (R.kn 5)] 120))
  have FI : Hid (∀ V, Below w.heap.size w V → Calls Tryz.prog 69 #[.pointer (some ⟨rb, 0, none⟩)] V fun e w' => e = .returned (.int .i64 (thereE E).length) ∧ Below w.heap.size w w') := fun V hb => by
    have h' := h.below hb
    refine (pfiles_gen rb s cm mb V h'.rep E h'.ris (by have := h'.len; omega) h'.own).mono ?_
    rintro e w' ⟨rfl, hb'⟩
    exact ⟨rfl, hb.trans (hb'.mono hb.size)⟩
  unfold recVal noRoom
  clear h
  cases hd : decide (0 < R.bn)
  all_goals
    go_enter Tryz.func50, Tryz.ntmps50
    go_wp2_with (first
      | (go_at_call 60; refine (isThere_any _ _ _ _ _ _ _ _ _ _).mono ?_; rintro e w3 ⟨rfl, hbr⟩; have B3 := hide (B1.out.trans (hbr.mono B1.out.size)); clear hbr)
      | (go_at_call 69; refine (FI.out _ B3.out).mono ?_; rintro e w4 ⟨rfl, hbr⟩; have B4 := hide hbr; clear hbr))
    go_ret
    exact ⟨rfl, by first | exact B4.out | exact B3.out⟩
end Go.Proofs.YtaelaldmibgibaaGreat

namespace Go.Proofs.YtaelaldmibgibaaGreat
open Go.RowKit Go.Maps

structure Rv (w V : World) (rb s mb b : Nat) (cm : Nat → Int) (E : Recs) (R : Rec) (eb : Nat) (eo : Option Obj) (b1 : Nat) (R1 : Rec) (b2 : Nat) (R2 : Rec) : Prop where
  sg : Sg w V rb s mb b cm E R eb eo
  r1 : RecAt V b1 R1
  r2 : RecAt V b2 R2
  g1 : w.heap.size ≤ b1
  g2 : w.heap.size ≤ b2
  n1 : b ≠ b1
  n2 : b ≠ b2
section
variable {w V V' : World} {rb s mb b : Nat} {cm : Nat → Int} {E : Recs} {R R' : Rec} {eb : Nat} {eo : Option Obj} {b1 b2 : Nat} {R1 R2 : Rec}
theorem Rv.below (h : Rv w V rb s mb b cm E R eb eo b1 R1 b2 R2) (hb : Below V.heap.size V V') : Rv w V' rb s mb b cm E R eb eo b1 R1 b2 R2 :=
  ⟨h.sg.below hb, h.r1.more hb, h.r2.more hb, h.g1, h.g2, h.n1, h.n2⟩
theorem Rv.drew (h : Rv w V rb s mb b cm E R eb eo b1 R1 b2 R2) : Rv w V.drew rb s mb b cm E R eb eo b1 R1 b2 R2 := h.below ⟨rfl, rfl, rfl, Nat.le_refl _, fun _ _ => rfl⟩
theorem Rv.onRec (h : Rv w V rb s mb b cm E R eb eo b1 R1 b2 R2) (hf : Fr (fun k => k = b) V V') (hr : RecAt V' b R') : Rv w V' rb s mb b cm E R' eb eo b1 R1 b2 R2 :=
  ⟨h.sg.onRec hf hr, h.r1.keep (hf.block _ h.r1.lt h.n1.symm), h.r2.keep (hf.block _ h.r2.lt h.n2.symm), h.g1, h.g2, h.n1, h.n2⟩
theorem Rv.alloc_ev (h : Rv w V rb s mb b cm E R eb eo b1 R1 b2 R2) (o : Obj) : Rv w (V.alloc o) rb s mb b cm E R V.heap.size (some o) b1 R1 b2 R2 := by
  have hb : Below V.heap.size V (V.alloc o) := (Below.refl _ _).alloc (Nat.le_refl _) o
  exact ⟨h.sg.alloc_ev o, h.r1.more hb, h.r2.more hb, h.g1, h.g2, h.n1, h.n2⟩
theorem Rv.rg (h : Rv w V rb s mb b cm E R eb eo b1 R1 b2 R2) {cm0 : Nat → Int} (h0 : Rg w rb s cm0 mb E) (hc : 0 ≤ cm s) : Rg V rb s cm mb E := ⟨h.sg.rep, h.sg.own, h0.ris, h0.bn, h0.len, hc⟩
theorem Rv.full (S : Rv w V rb s mb b cm E R eb eo b1 R1 b2 R2) : Calls Tryz.prog 49 #[.pointer (some ⟨rb, 0, none⟩)] V fun e w' => e = .returned (.bool (decide (1000000000 ≤ cm s))) ∧ Rv w w' rb s mb b cm E R eb eo b1 R1 b2 R2 := by
  refine (countIsFull_any rb s cm mb V S.sg.rep).mono ?_
  rintro e w' ⟨rfl, nq, rfl⟩
  exact ⟨rfl, S.below ⟨rfl, rfl, rfl, Nat.le_refl _, fun _ _ => rfl⟩⟩
theorem Rv.there (S : Rv w V rb s mb b cm E R eb eo b1 R1 b2 R2) (Q : Rec) : Calls Tryz.prog 60 #[fileVal Q] V fun e w' => e = .returned (.bool (decide (0 < Q.bn))) ∧ Rv w w' rb s mb b cm E R eb eo b1 R1 b2 R2 := by
  refine (isThere_any _ _ _ _ _ _ _ _ _ V).mono ?_
  rintro e w' ⟨rfl, hb⟩
  exact ⟨rfl, S.below hb⟩
theorem Rv.room (S : Rv w V rb s mb b cm E R eb eo b1 R1 b2 R2) (h : Rg w rb s cm mb E) (Q : Rec) : Calls Tryz.prog 50 #[.pointer (some ⟨rb, 0, none⟩), recVal Q] V fun e w' => e = .returned (.bool (noRoom Q E)) ∧ Rv w w' rb s mb b cm E R eb eo b1 R1 b2 R2 := by
  refine (room_rg rb s cm mb E V (S.rg h h.c0) Q).mono ?_
  rintro e w' ⟨rfl, hb⟩
  exact ⟨rfl, S.below hb⟩
theorem Rv.next (S : Rv w V rb s mb b cm E R eb eo b1 R1 b2 R2) (h0 : 0 ≤ cm s) (hc : cm s < 1000000000) : Calls Tryz.prog 51 #[.pointer (some ⟨rb, 0, none⟩)] V fun e w' => e = .returned (.agg #[.int .i64 s, .int .i64 (cm s + 1)]) ∧ Rv w w' rb s mb b (nxG s cm) E R eb eo b1 R1 b2 R2 := by
  refine (next_any rb s cm mb V S.sg.rep h0 hc).mono ?_
  rintro e w' ⟨rfl, hr, hf⟩
  have hl := S.sg.rlt
  have h1 : b ≠ rb := by have := S.sg.bge; omega
  have h2 := (S.sg.rep.ne S.sg.own).symm
  refine ⟨rfl, ⟨S.sg.rc.keep (hf.block _ S.sg.rc.lt h1), hr, ownsMap_keep S.sg.own (hf.block _ S.sg.own.lt h2), S.sg.fr.trans (hf.mono (fun k _ e => .inl e)), S.sg.rlt, S.sg.mlt, S.sg.bge, fun o ho => ?_⟩, S.r1.keep (hf.block _ S.r1.lt (by have := S.g1; omega)), S.r2.keep (hf.block _ S.r2.lt (by have := S.g2; omega)), S.g1, S.g2, S.n1, S.n2⟩
  obtain ⟨e1, e2, e3⟩ := S.sg.ev o ho
  exact ⟨by rw [hf.block _ (S.sg.elt o ho) (by omega)]; exact e1, e2, e3⟩
theorem Rv.settle (S : Rv w V rb s mb b cm E R eb eo b1 R1 b2 R2) (x : Int) : Calls Tryz.prog 66 #[.pointer (some ⟨b, 0, none⟩), fileVal R1, fileVal R2, .agg #[.int .i64 s, .int .i64 x]] V fun e w' => e = .returned (.tuple #[]) ∧ Rv w w' rb s mb b cm E (settled s x R1 R2 R) eb eo b1 R1 b2 R2 := by
  refine (settle_any b R R1 R2 s S.sg.rep.hs x V S.sg.rc).mono ?_
  rintro e w' ⟨rfl, hr, hf⟩
  exact ⟨rfl, S.onRec hf hr⟩
theorem Rv.alone (S : Rv w V rb s mb b cm E R eb eo b1 R1 b2 R2) (x : Int) : Calls Tryz.prog 55 #[.agg #[.int .i64 s, .int .i64 x]] V fun e w' => e = .returned (.agg #[.int .i64 (tf s x 0), .int .i64 (tf s x 1), .int .i64 (tf s x 2), .int .i64 (tf s x 3), .int .i64 (tf s x 4), .int .i64 (tf s x 5)]) ∧ Rv w w' rb s mb b cm E R eb eo b1 R1 b2 R2 := by
  refine (Alone_fn s x V S.sg.rep.hs).mono ?_
  rintro e w' ⟨rfl, hb⟩
  exact ⟨rfl, S.below hb⟩
theorem Rv.hear2 (S : Rv w V rb s mb b cm E R eb eo b1 R1 b2 R2) (u v : Nat → Int) (ty : TypeId) : Calls Tryz.prog 54 #[.pointer (some ⟨b, 9, none⟩), .slice (some ⟨V.heap.size, 0, none⟩) 2 2] (V.alloc (.cells #[.int .i64 (u 0), .int .i64 (u 1), .int .i64 (u 2), .int .i64 (u 3), .int .i64 (u 4), .int .i64 (u 5), .int .i64 (v 0), .int .i64 (v 1), .int .i64 (v 2), .int .i64 (v 3), .int .i64 (v 4), .int .i64 (v 5)] ty)) fun e w' => e = .returned (.tuple #[]) ∧ Rv w w' rb s mb b cm E ⟨R.text, R.br, R.bn, R.ch, gboth R.kn (gboth u v)⟩ eb eo b1 R1 b2 R2 := by
  have S' := S.below ((Below.refl _ _).alloc (Nat.le_refl _) (.cells #[.int .i64 (u 0), .int .i64 (u 1), .int .i64 (u 2), .int .i64 (u 3), .int .i64 (u 4), .int .i64 (u 5), .int .i64 (v 0), .int .i64 (v 1), .int .i64 (v 2), .int .i64 (v 3), .int .i64 (v 4), .int .i64 (v 5)] ty))
  obtain ⟨q1, q2⟩ := built12 V u v ty
  refine (hear_rec2 b V.heap.size 2 u v R _ S'.sg.rc (by simp) q1 q2).mono ?_
  rintro e w' ⟨rfl, hr, hf⟩
  exact ⟨rfl, S'.onRec hf hr⟩
theorem Rv.evCells {x : Int} (S : Rv w V rb s mb b cm E R eb (some (.cells #[.int .i64 s, .int .i64 x] 114)) b1 R1 b2 R2) : V.cell? ⟨eb, 0, none⟩ = some (.int .i64 s) ∧ V.cell? ⟨eb, 1, none⟩ = some (.int .i64 x) := S.sg.evCells
end
end Go.Proofs.YtaelaldmibgibaaGreat

namespace Go.Proofs.YtaelaldmibgibaaGreat
open Go.RowKit Go.Maps

set_option maxRecDepth 100000 in
set_option maxHeartbeats 1000000 in
theorem room_any (rb s : Nat) (cm : Nat → Int) (mb : Nat) (E : Recs) (w : World) (h : Rg w rb s cm mb E) (R : Rec) :
    Calls Tryz.prog 50 #[.pointer (some ⟨rb, 0, none⟩), recVal R] w fun e w' => e = .returned (.bool (noRoom R E)) ∧ Below w.heap.size w w' := by
  have B1 := hide ((Below.refl w.heap.size w).alloc (Nat.le_refl _) (.cells #[.string R.text, .int .i64 R.br, .int .i64 R.bn, .int .i64 (R.ch 0), .int .i64 (R.ch 1), .int .i64 (R.ch 2), .int .i64 (R.ch 3), .int .i64 (R.ch 4), .int .i64 (R.ch 5), .int .i64 (R.kn 0), .int .i64 (R.kn 1), .int .i64 (R.kn 2), .int .i64 (R.kn 3), .int .i64 (R.kn 4), .int .i64 (R.kn 5)] 120))
  have FI : Hid (∀ V, Below w.heap.size w V → Calls Tryz.prog 69 #[.pointer (some ⟨rb, 0, none⟩)] V fun e w' => e = .returned (.int .i64 (thereE E).length) ∧ Below w.heap.size w w') := fun V hb => by
    have h' := h.below hb
    refine (pfiles_gen rb s cm mb V h'.rep E h'.ris (by have := h'.len; omega) h'.own).mono ?_
    rintro e w' ⟨rfl, hb'⟩
    exact ⟨rfl, hb.trans (hb'.mono hb.size)⟩
  unfold recVal noRoom
  clear h
  cases hd : decide (0 < R.bn)
  all_goals
    go_enter Tryz.func50, Tryz.ntmps50
    go_wp2_with (first
      | (go_at_call 60; refine (isThere_any _ _ _ _ _ _ _ _ _ _).mono ?_; rintro e w3 ⟨rfl, hbr⟩; have B3 := hide (B1.out.trans (hbr.mono B1.out.size)); clear hbr)
      | (go_at_call 69; refine (FI.out _ B3.out).mono ?_; rintro e w4 ⟨rfl, hbr⟩; have B4 := hide hbr; clear hbr))
    go_ret
    exact ⟨rfl, by first | exact B4.out | exact B3.out⟩
theorem pullR_ok (t f : Rec) (h0 : 0 ≤ t.bn) (hb : brOk t) (h0' : 0 ≤ f.bn) (hb' : brOk f) : 0 ≤ (pullR t f).1.bn ∧ brOk (pullR t f).1 := by
  unfold pullR brOk at *
  (repeat' split) <;> first | exact ⟨h0, hb⟩ | exact ⟨h0', hb'⟩ | exact ⟨Int.le_refl 0, 0, by omega, rfl⟩
/-- a record in a new block -/
structure Pp (w V : World) (b : Nat) (R : Rec) : Prop where
  rc : RecAt V b R
  ge : w.heap.size ≤ b
  bel : Below w.heap.size w V
theorem Pp.more {w V V' : World} {b : Nat} {R : Rec} (h : Pp w V b R) (hb : Below V.heap.size V V') : Pp w V' b R := ⟨h.rc.more hb, h.ge, h.bel.trans (hb.mono h.bel.size)⟩
theorem Pp.drewN {w V : World} {b : Nat} {R : Rec} (h : Pp w V b R) (n : Nat) : Pp w (V.drewN n) b R := h.more ⟨rfl, rfl, rfl, Nat.le_refl _, fun _ _ => rfl⟩
theorem Pp.drew {w V : World} {b : Nat} {R : Rec} (h : Pp w V b R) : Pp w V.drew b R := h.more ⟨rfl, rfl, rfl, Nat.le_refl _, fun _ _ => rfl⟩
theorem Pp.zero {w V : World} (hb : Below w.heap.size w V) : Pp w (V.alloc (.cells #[.string ⟨#[]⟩, .int .i64 0, .int .i64 0, .int .i64 0, .int .i64 0, .int .i64 0, .int .i64 0, .int .i64 0, .int .i64 0, .int .i64 0, .int .i64 0, .int .i64 0, .int .i64 0, .int .i64 0, .int .i64 0] 120)) V.heap.size rec0 := ⟨⟨heap_alloc_new _ _⟩, hb.size, hb.alloc hb.size _⟩
theorem RecAt.setAll {w : World} {b : Nat} {R : Rec} (h : RecAt w b R) (S : Rec) : RecAt (w.setCells b 0 [.string S.text, .int .i64 S.br, .int .i64 S.bn, .int .i64 (S.ch 0), .int .i64 (S.ch 1), .int .i64 (S.ch 2), .int .i64 (S.ch 3), .int .i64 (S.ch 4), .int .i64 (S.ch 5), .int .i64 (S.kn 0), .int .i64 (S.kn 1), .int .i64 (S.kn 2), .int .i64 (S.kn 3), .int .i64 (S.kn 4), .int .i64 (S.kn 5)]) b S := by
  constructor
  simp only [World.setCells]
  have h1 := heap_setCell_same w b 0 _ _ (.string S.text) h.blk
  have h2 := heap_setCell_same _ b 1 _ _ (.int .i64 S.br) h1
  have h3 := heap_setCell_same _ b 2 _ _ (.int .i64 S.bn) h2
  have h4 := heap_setCell_same _ b 3 _ _ (.int .i64 (S.ch 0)) h3
  have h5 := heap_setCell_same _ b 4 _ _ (.int .i64 (S.ch 1)) h4
  have h6 := heap_setCell_same _ b 5 _ _ (.int .i64 (S.ch 2)) h5
  have h7 := heap_setCell_same _ b 6 _ _ (.int .i64 (S.ch 3)) h6
  have h8 := heap_setCell_same _ b 7 _ _ (.int .i64 (S.ch 4)) h7
  have h9 := heap_setCell_same _ b 8 _ _ (.int .i64 (S.ch 5)) h8
  have h10 := heap_setCell_same _ b 9 _ _ (.int .i64 (S.kn 0)) h9
  have h11 := heap_setCell_same _ b 10 _ _ (.int .i64 (S.kn 1)) h10
  have h12 := heap_setCell_same _ b 11 _ _ (.int .i64 (S.kn 2)) h11
  have h13 := heap_setCell_same _ b 12 _ _ (.int .i64 (S.kn 3)) h12
  have h14 := heap_setCell_same _ b 13 _ _ (.int .i64 (S.kn 4)) h13
  have h15 := heap_setCell_same _ b 14 _ _ (.int .i64 (S.kn 5)) h14
  simpa using h15
/-- a new record is set whole -/
theorem Pp.set {w V : World} {b : Nat} {R : Rec} (h : Pp w V b R) (S : Rec) : Pp w (V.setCells b 0 [.string S.text, .int .i64 S.br, .int .i64 S.bn, .int .i64 (S.ch 0), .int .i64 (S.ch 1), .int .i64 (S.ch 2), .int .i64 (S.ch 3), .int .i64 (S.ch 4), .int .i64 (S.ch 5), .int .i64 (S.kn 0), .int .i64 (S.kn 1), .int .i64 (S.kn 2), .int .i64 (S.kn 3), .int .i64 (S.kn 4), .int .i64 (S.kn 5)]) b S := by
  have hf : Fr (fun k => k = b) V (V.setCells b 0 [.string S.text, .int .i64 S.br, .int .i64 S.bn, .int .i64 (S.ch 0), .int .i64 (S.ch 1), .int .i64 (S.ch 2), .int .i64 (S.ch 3), .int .i64 (S.ch 4), .int .i64 (S.ch 5), .int .i64 (S.kn 0), .int .i64 (S.kn 1), .int .i64 (S.kn 2), .int .i64 (S.kn 3), .int .i64 (S.kn 4), .int .i64 (S.kn 5)]) := (Fr.refl _ _).setCells _ 0 _ (.inl rfl)
  exact ⟨h.rc.setAll S, h.ge, ⟨hf.os.trans h.bel.os, hf.tape.trans h.bel.tape, hf.output.trans h.bel.output, Nat.le_trans h.bel.size hf.size, fun k hk => (hf.block k (by have := h.rc.lt; have := h.ge; omega) (by have := h.ge; omega)).trans (h.bel.block k hk)⟩⟩
theorem Pp.other {w V : World} {b i : Nat} {R : Rec} (h : Pp w V b R) (hi : w.heap.size ≤ i) (hn : b ≠ i) (vs : List Value) : Pp w (V.setCells i 0 vs) b R := by
  have hf : Fr (fun k => k = i) V (V.setCells i 0 vs) := (Fr.refl _ _).setCells _ 0 _ (.inl rfl)
  exact ⟨h.rc.keep (hf.block _ h.rc.lt hn), h.ge, ⟨hf.os.trans h.bel.os, hf.tape.trans h.bel.tape, hf.output.trans h.bel.output, Nat.le_trans h.bel.size hf.size, fun k hk => (hf.block k (by have := h.rc.lt; have := h.ge; omega) (by omega)).trans (h.bel.block k hk)⟩⟩
theorem Pp.zero' {w V : World} {i : Nat} (hb : Below w.heap.size w V) (hs : V.heap.size = i) : Pp w (V.alloc (.cells #[.string ⟨#[]⟩, .int .i64 0, .int .i64 0, .int .i64 0, .int .i64 0, .int .i64 0, .int .i64 0, .int .i64 0, .int .i64 0, .int .i64 0, .int .i64 0, .int .i64 0, .int .i64 0, .int .i64 0, .int .i64 0] 120)) i rec0 := by subst hs; exact Pp.zero hb
theorem there0 (V : World) : (V.alloc (.cells #[.string ⟨#[]⟩, .int .i64 0, .int .i64 0, .int .i64 0, .int .i64 0, .int .i64 0, .int .i64 0, .int .i64 0, .int .i64 0, .int .i64 0, .int .i64 0, .int .i64 0, .int .i64 0, .int .i64 0, .int .i64 0] 120)).there V.heap.size 0 15 := RecAt.there (R := rec0) ⟨heap_alloc_new _ _⟩
end Go.Proofs.YtaelaldmibgibaaGreat

namespace Go.Proofs.YtaelaldmibgibaaGreat
open Go.RowKit

theorem NetAt.below {w w' : World} {nb n pb : Nat} {rbs : List Nat} (h : NetAt w nb n pb rbs) (hn : nb < w.heap.size) (hp : pb < w.heap.size) (hb : Below w.heap.size w w') : NetAt w' nb n pb rbs := by
  obtain ⟨cap, hc⟩ := h.blk
  exact ⟨⟨cap, by rw [hb.block nb hn]; exact hc⟩, h.len, fun r b hr => (hb.cell (p := ⟨pb, r, none⟩) hp).trans (h.row r b hr), h.n6⟩
theorem Below.drewN' {B : Nat} {a w : World} (h : Below B a w) : Below B a (w.drewN 1) := ⟨h.os, h.tape, h.output, h.size, h.block⟩
/-- two different replicas of n -/
def okP (n : Nat) (a b : Int) : Bool := (decide (0 ≤ a ∧ a < n) && decide (0 ≤ b ∧ b < n)) && !(a == b)
set_option maxRecDepth 100000 in
set_option maxHeartbeats 1000000 in
theorem arePairs_one (nb n pb : Nat) (rbs : List Nat) (g cap : Nat) (a b : Int) (w : World) (h : NetAt w nb n pb rbs) (hn : nb < w.heap.size) (hp : pb < w.heap.size) (hg : g < w.heap.size) (g0 : w.cell? ⟨g, 0, none⟩ = some (.int .i64 a)) (g1 : w.cell? ⟨g, 1, none⟩ = some (.int .i64 b)) :
    Calls Tryz.prog 62 #[.pointer (some ⟨nb, 0, none⟩), .slice (some ⟨g, 0, none⟩) 1 cap] w fun e w' => e = .returned (.bool (okP n a b)) ∧ Below w.heap.size w w' := by
  have HA : Hid (∀ V r, Below w.heap.size w V → Calls Tryz.prog 46 #[.pointer (some ⟨nb, 0, none⟩), .int .i64 r] V fun e w' => e = .returned (.bool (decide (0 ≤ r ∧ r < n))) ∧ w' = V) := fun V r hb => has_any nb n pb rbs r V (h.below hn hp hb)
  have BB : Hid (∀ o, Below w.heap.size w (w.alloc o)) := fun o => (Below.refl _ _).alloc (Nat.le_refl _) o
  unfold okP
  clear h hn hp
  generalize hz1 : decide (0 ≤ a ∧ a < n) = z1
  generalize hz2 : decide (0 ≤ b ∧ b < n) = z2
  generalize hz3 : (a == b) = z3
  obtain ⟨zz, hzz⟩ : ∃ zz, zz = ((z1 && z2) && !z3) := ⟨_, rfl⟩
  rw [← hzz]
  cases z1 <;> cases z2 <;> cases z3
  all_goals
    have HZ := hide hzz
    clear hzz
    go_enter Tryz.func62, Tryz.ntmps62
    go_wp2
    go_loopw [9] (fun i wi => (i = .int .i64 0 ∧ wi = w) ∨ (i = .int .i64 1 ∧ Hid (zz = true) ∧ Hid (Below w.heap.size w wi))) (fun i _ => 1 - (intOf i).toNat)
    case atStart => exact .inl ⟨rfl, rfl⟩
    case round =>
      rcases hrel with ⟨rfl, rfl⟩ | ⟨rfl, hzt, hb⟩
      · go_wp2_with (go_at_call 46; refine (HA.out _ _ (BB.out _)).mono ?_; rintro e wn ⟨rfl, rfl⟩)
        first
          | (go_ret; exact ⟨by rw [HZ.out]; rfl, BB.out _⟩)
          | exact ⟨.inr ⟨rfl, HZ.out, BB.out _⟩, by simp [intOf]⟩
      · go_wp2
        go_ret
        exact ⟨by rw [hzt.out]; rfl, hb.out⟩
set_option maxRecDepth 100000 in
set_option maxHeartbeats 1000000 in
theorem areApart_one (g cap : Nat) (a b : Nat) (ha : a < 6) (hb : b < 6) (w : World) (hg : g < w.heap.size) (g0 : w.cell? ⟨g, 0, none⟩ = some (.int .i64 a)) (g1 : w.cell? ⟨g, 1, none⟩ = some (.int .i64 b)) :
    Calls Tryz.prog 63 #[.slice (some ⟨g, 0, none⟩) 1 cap] w fun e w' => e = .returned (.bool true) ∧ Below w.heap.size w w' := by
  have la : ∀ h, ([Value.bool false, Value.bool false, Value.bool false, Value.bool false, Value.bool false, Value.bool false])[a]'h = .bool false := by
    intro h
    match a, ha with
    | 0, _ | 1, _ | 2, _ | 3, _ | 4, _ | 5, _ => rfl
  have lb : ∀ h, ([Value.bool false, Value.bool false, Value.bool false, Value.bool false, Value.bool false, Value.bool false])[b]'h = .bool false := by
    intro h
    match b, hb with
    | 0, _ | 1, _ | 2, _ | 3, _ | 4, _ | 5, _ => rfl
  have BB : Hid (∀ o o', Below w.heap.size w ((w.alloc o).alloc o').drew) := fun o o' => ((((Below.refl _ _).alloc (Nat.le_refl _) o)).alloc (by simp) o').drew
  go_enter Tryz.func63, Tryz.ntmps63
  go_wp2
  go_loopw [8] (fun i wi => (i = .int .i64 0 ∧ wi = w.alloc (.cells #[.bool false, .bool false, .bool false, .bool false, .bool false, .bool false] 150)) ∨ (i = .int .i64 1 ∧ Hid (Below w.heap.size w wi))) (fun i _ => 1 - (intOf i).toNat)
  case atStart => exact .inl ⟨rfl, rfl⟩
  case round =>
    rcases hrel with ⟨rfl, rfl⟩ | ⟨rfl, hb⟩
    · go_wp2
      go_region
      all_goals
        go_wp2
        refine ⟨.inr ⟨rfl, ?_⟩, by simp [intOf]⟩
        exact BB.out _ _
    · go_wp2
      go_ret
      exact ⟨rfl, hb.out⟩
end Go.Proofs.YtaelaldmibgibaaGreat

namespace Go.Proofs.YtaelaldmibgibaaGreat
open Go.RowKit

set_option maxRecDepth 100000 in
set_option maxHeartbeats 1000000 in
/-- the two places -/
theorem placesOf_ok (nb n pb : Nat) (rbs : List Nat) (a b : Nat) (ra rb : Nat) (p : ByteArray) (w : World) (h : NetAt w nb n pb rbs) (hn : nb < w.heap.size) (hp : pb < w.heap.size) (ha : rbs[a]? = some ra) (hb : rbs[b]? = some rb) (hab : a ≠ b) (hpo : pathOk p = true) (hs : p.size ≤ maxLen) :
    Calls Tryz.prog 43 #[.pointer (some ⟨nb, 0, none⟩), .int .i64 a, .int .i64 b, .string p] w fun e w' => e = .returned (.tuple #[.pointer (some ⟨ra, 0, none⟩), .pointer (some ⟨rb, 0, none⟩), .int .i64 0]) ∧ Below w.heap.size w w' := by
  have hal : a < n := by have := (List.getElem?_eq_some_iff.1 ha).1; have := h.len; omega
  have hbl : b < n := by have := (List.getElem?_eq_some_iff.1 hb).1; have := h.len; omega
  have hok : okP n a b = true := by
    unfold okP
    simp only [Bool.and_eq_true, decide_eq_true_eq, Bool.not_eq_true', beq_eq_false_iff_ne]
    omega
  have B1 : Hid (Below w.heap.size w (w.alloc (.cells #[.int .i64 a, .int .i64 b] 100))) := (Below.refl _ _).alloc (Nat.le_refl _) _
  have AP := hide (arePairs_one nb n pb rbs w.heap.size 1 a b (w.alloc (.cells #[.int .i64 a, .int .i64 b] 100)) (h.below hn hp B1.out) (by simp; omega) (by simp; omega) (by simp) (by simp [go_sem]) (by simp [go_sem]))
  rw [hok] at AP
  have PO : Hid (∀ V, Below w.heap.size w V → Calls Tryz.prog 29 #[.pointer (some ⟨nb, 0, none⟩), .int .i64 a, .string p] V fun e w' => e = .returned (.tuple #[.pointer (some ⟨ra, 0, none⟩), .int .i64 0]) ∧ w' = V) := fun V hV => placeOf_ok nb n pb rbs a ra p V (h.below hn hp hV) ha hpo hs
  have NC : Hid (∀ V, Below w.heap.size w V → (∃ cap, V.cell? ⟨nb, 0, none⟩ = some (.slice (some ⟨pb, 0, none⟩) n cap)) ∧ V.cell? ⟨pb, b, none⟩ = some (.pointer (some ⟨rb, 0, none⟩))) := fun V hV => by
    have q := h.below hn hp hV
    obtain ⟨cap, hc⟩ := q.blk
    exact ⟨⟨cap, by simp [World.cell?, hc]⟩, q.row b rb hb⟩
  have hn6 := h.n6
  clear h hok ha hb hpo hs
  go_enter Tryz.func43, Tryz.ntmps43
  go_wp2_with (first
    | (go_at_call 62; refine AP.out.mono ?_; rintro e w1 ⟨rfl, hb1⟩; have B2 := hide (B1.out.trans (hb1.mono (by simp))); clear hb1)
    | (go_at_call 29; refine (PO.out _ B2.out).mono ?_; rintro e w2 ⟨rfl, rfl⟩; obtain ⟨⟨cap, c0⟩, cr⟩ := NC.out _ B2.out))
  go_quiet (fail)
  go_wp2
  go_ret3
  exact ⟨rfl, B2.out.os, B2.out.tape, B2.out.output, B2.out.size, B2.out.block⟩

/-- a replica's state: what it knows of all paths, its records -/
structure RS where
  cm : Nat → Int
  E : Recs
/-- a net: its block, the row's, the replicas' and their maps', their states -/
structure Nt (w : World) (nb pb : Nat) (L : List (Nat × Nat)) (S : List RS) : Prop where
  net : NetAt w nb S.length pb (L.map (·.1))
  rep : ∀ (i : Nat) x s, L[i]? = some x → S[i]? = some s → Rg w x.1 i s.cm x.2 s.E
  nlt : nb < w.heap.size
  plt : pb < w.heap.size
  apart : (nb :: pb :: (L.map (·.1) ++ L.map (·.2))).Nodup
  pbk : ∃ cur, w.heap[pb]? = some (.cells cur 75 (0, 0))
theorem Nt.below {w w' : World} {nb pb : Nat} {L : List (Nat × Nat)} {S : List RS} (h : Nt w nb pb L S) (hb : Below w.heap.size w w') : Nt w' nb pb L S :=
  ⟨h.net.below h.nlt h.plt hb, fun i x s h1 h2 => (h.rep i x s h1 h2).below hb, Nat.lt_of_lt_of_le h.nlt hb.size, Nat.lt_of_lt_of_le h.plt hb.size, h.apart, h.pbk.imp fun cur hc => (hb.block _ h.plt).trans hc⟩
theorem Nt.len {w : World} {nb pb : Nat} {L : List (Nat × Nat)} {S : List RS} (h : Nt w nb pb L S) : L.length = S.length := by
  have := h.net.len
  simpa using this
theorem Nt.ne {w : World} {nb pb : Nat} {L : List (Nat × Nat)} {S : List RS} (h : Nt w nb pb L S) {i : Nat} {x : Nat × Nat} (hi : L[i]? = some x) : nb ≠ x.1 ∧ nb ≠ x.2 ∧ pb ≠ x.1 ∧ pb ≠ x.2 := by
  have hm := List.mem_of_getElem? hi
  have h1 := h.apart
  simp only [List.nodup_cons, List.mem_cons, List.mem_append, not_or, List.mem_map] at h1
  obtain ⟨⟨_, n1, n2⟩, ⟨p1, p2⟩, _⟩ := h1
  exact ⟨fun e => n1 ⟨x, hm, e.symm⟩, fun e => n2 ⟨x, hm, e.symm⟩, fun e => p1 ⟨x, hm, e.symm⟩, fun e => p2 ⟨x, hm, e.symm⟩⟩
theorem Nt.ne2 {w : World} {nb pb : Nat} {L : List (Nat × Nat)} {S : List RS} (h : Nt w nb pb L S) {i j : Nat} {x y : Nat × Nat} (hi : L[i]? = some x) (hj : L[j]? = some y) (hij : i ≠ j) : x.1 ≠ y.1 ∧ x.1 ≠ y.2 ∧ x.2 ≠ y.1 ∧ x.2 ≠ y.2 := by
  have h1 := h.apart
  simp only [List.nodup_cons, List.nodup_append] at h1
  obtain ⟨_, _, d1, d2, d3⟩ := h1
  have mx := List.mem_of_getElem? hi
  have my := List.mem_of_getElem? hj
  have key : ∀ (f : Nat × Nat → Nat), (L.map f).Nodup → f x ≠ f y := by
    intro f hf e
    have a1 : (L.map f)[i]? = some (f x) := by rw [List.getElem?_map, hi]; rfl
    have a2 : (L.map f)[j]? = some (f y) := by rw [List.getElem?_map, hj]; rfl
    exact getElem_ne hf a1 a2 hij e
  refine ⟨key _ d1, fun e => ?_, fun e => ?_, key _ d2⟩
  · exact d3 x.1 (List.mem_map.2 ⟨x, mx, rfl⟩) y.2 (List.mem_map.2 ⟨y, my, rfl⟩) e
  · exact d3 y.1 (List.mem_map.2 ⟨y, my, rfl⟩) x.2 (List.mem_map.2 ⟨x, mx, rfl⟩) e.symm
/-- one replica has changed -/
theorem Nt.turn {w w' : World} {nb pb : Nat} {L : List (Nat × Nat)} {S : List RS} (h : Nt w nb pb L S) {i : Nat} {x : Nat × Nat} (hi : L[i]? = some x) (hf : Fr (fun k => k = x.1 ∨ k = x.2) w w') {s' : RS} (hr : Rg w' x.1 i s'.cm x.2 s'.E) : Nt w' nb pb L (S.set i s') := by
  obtain ⟨e1, e2, e3, e4⟩ := h.ne hi
  refine ⟨?_, fun j y s hj hs => ?_, Nat.lt_of_lt_of_le h.nlt hf.size, Nat.lt_of_lt_of_le h.plt hf.size, h.apart, h.pbk.imp fun cur hc => (hf.block pb h.plt (by rintro (e | e); exact e3 e; exact e4 e)).trans hc⟩
  · rw [List.length_set]
    obtain ⟨cap, hc⟩ := h.net.blk
    refine ⟨⟨cap, by rw [hf.block nb h.nlt (by rintro (e | e); exact e1 e; exact e2 e)]; exact hc⟩, h.net.len, fun r b hr => ?_, h.net.n6⟩
    rw [World.cell?_of_block (w := w) (hf.block pb h.plt (by rintro (e | e); exact e3 e; exact e4 e))]
    exact h.net.row r b hr
  · by_cases hij : i = j
    · subst hij
      rw [hi] at hj
      cases hj
      have hlt : i < S.length := by have := (List.getElem?_eq_some_iff.1 hi).1; have := h.len; omega
      rw [List.getElem?_set_self hlt] at hs
      cases hs
      exact hr
    · rw [List.getElem?_set_ne hij] at hs
      have q := h.rep j y s hj hs
      obtain ⟨n1, n2, n3, n4⟩ := h.ne2 hi hj hij
      exact q.keep (hf.block _ q.rep.lt (by rintro (e | e); exact n1 e.symm; exact n3 e.symm)) (hf.block _ q.own.lt (by rintro (e | e); exact n2 e.symm; exact n4 e.symm))
end Go.Proofs.YtaelaldmibgibaaGreat

namespace Go.Proofs.YtaelaldmibgibaaGreat
open Go.RowKit

/-- Write in a replica: the answer, the state behind it -/
def wrR (s : Nat) (x : RS) (p t : ByteArray) : Int × RS :=
  if (decide (1000000000 ≤ x.cm s) || noRoom (recG s x.cm (getE p x.E)) x.E) = true then (5, x)
  else (0, ⟨nxG s x.cm, keepE (nxG s x.cm) p (writtenG s (x.cm s + 1) t (recG s x.cm (getE p x.E))) x.E⟩)
theorem rwrite_any (rb s mb : Nat) (x : RS) (w : World) (h : Rg w rb s x.cm mb x.E) (hl : x.E.length < 999999) (p t : ByteArray) (hp : p.size ≤ 1000000000000) (ht : t.size ≤ 1000000000000) :
    Calls Tryz.prog 30 #[.pointer (some ⟨rb, 0, none⟩), .string p, .string t] w fun e w' => e = .returned (.int .i64 (wrR s x p t).1) ∧ Rg w' rb s (wrR s x p t).2.cm mb (wrR s x p t).2.E ∧ Fr (fun k => k = rb ∨ k = mb) w w' := by
  unfold wrR
  split
  · next hc =>
    rw [Bool.or_eq_true, decide_eq_true_eq] at hc
    exact rwrite_full rb s x.cm mb x.E w h p t hp hc
  · next hc =>
    rw [Bool.or_eq_true, decide_eq_true_eq, not_or] at hc
    exact rwrite_ok rb s x.cm mb x.E w h hl p t hp ht (by omega) (by simpa using hc.2)
/-- Remove in a replica -/
def rmR (s : Nat) (x : RS) (p : ByteArray) : Int × RS :=
  if (decide (0 < (recG s x.cm (getE p x.E)).bn)) = false then (4, x)
  else if (decide (1000000000 ≤ x.cm s)) = true then (5, x)
  else (0, ⟨nxG s x.cm, keepE (nxG s x.cm) p (removedG s (x.cm s + 1) (recG s x.cm (getE p x.E))) x.E⟩)
theorem rremove_any (rb s mb : Nat) (x : RS) (w : World) (h : Rg w rb s x.cm mb x.E) (hl : x.E.length < 999999) (p : ByteArray) (hp : p.size ≤ 1000000000000) :
    Calls Tryz.prog 40 #[.pointer (some ⟨rb, 0, none⟩), .string p] w fun e w' => e = .returned (.int .i64 (rmR s x p).1) ∧ Rg w' rb s (rmR s x p).2.cm mb (rmR s x p).2.E ∧ Fr (fun k => k = rb ∨ k = mb) w w' := by
  unfold rmR
  split
  · next hc => exact rremove_none rb s x.cm mb x.E w h p hp (by simpa using hc)
  · next hc =>
    split
    · next hd => exact rremove_full rb s x.cm mb x.E w h p hp (by simpa using hc) (by simpa using hd)
    · next hd => exact rremove_ok rb s x.cm mb x.E w h p hp (by simpa using hc) hl (by simp at hd; omega)
/-- Read in a replica -/
def rdR (s : Nat) (x : RS) (p : ByteArray) : ByteArray × Int :=
  if (decide (0 < (recG s x.cm (getE p x.E)).bn)) = true then ((recG s x.cm (getE p x.E)).text, 0) else (⟨#[]⟩, 4)
theorem rread_any (rb s mb : Nat) (x : RS) (w : World) (h : Rg w rb s x.cm mb x.E) (p : ByteArray) (hp : p.size ≤ maxLen) :
    Calls Tryz.prog 42 #[.pointer (some ⟨rb, 0, none⟩), .string p] w fun e w' => e = .returned (.tuple #[.string (rdR s x p).1, .int .i64 (rdR s x p).2]) ∧ Below w.heap.size w w' := by
  unfold rdR
  split
  · next hc => exact rread_some rb s x.cm mb x.E w h p hp (by simpa using hc)
  · next hc => exact rread_none rb s x.cm mb x.E w h p hp (by simpa using hc)

set_option maxHeartbeats 600000 in
theorem nwrite_any {nb pb : Nat} {L : List (Nat × Nat)} {S : List RS} {w : World} (h : Nt w nb pb L S) (r : Nat) {x : Nat × Nat} {s : RS} (hx : L[r]? = some x) (hs : S[r]? = some s) (hl : s.E.length < 999999) (p t : ByteArray) (hp : pathOk p = true) (hpm : p.size ≤ 1000000) (ht : t.size ≤ 60) :
    Calls Tryz.prog 10 #[.pointer (some ⟨nb, 0, none⟩), .int .i64 r, .string p, .string t] w fun e w' => e = .returned (.int .i64 (wrR r s p t).1) ∧ Nt w' nb pb L (S.set r (wrR r s p t).2) ∧ Fr (fun k => k = x.1 ∨ k = x.2) w w' := by
  have C := hide (placeOf_ok nb S.length pb (L.map (·.1)) r x.1 p w h.net (by rw [List.getElem?_map, hx]; rfl) hp (by unfold maxLen; omega))
  have W1 := hide (rwrite_any x.1 r x.2 s w (h.rep r x s hx hs) hl p t (by omega) (by omega))
  have FN : Hid (∀ w', Rg w' x.1 r (wrR r s p t).2.cm x.2 (wrR r s p t).2.E → Fr (fun k => k = x.1 ∨ k = x.2) w w' → Nt w' nb pb L (S.set r (wrR r s p t).2)) := fun w' h1 h2 => h.turn hx h2 h1
  have d1 : decide ((60 : Int) < (t.size : Int)) = false := by simp; omega
  clear h hx hs hp hpm ht hl
  go_enter Tryz.func10, Tryz.ntmps10
  go_wp2_with (first
    | (go_at_call 29; refine C.out.mono ?_; rintro e w1 ⟨rfl, rfl⟩)
    | (go_at_call 30; refine W1.out.mono ?_; rintro e w2 ⟨rfl, hRr, hFr⟩; have HR := hide hRr; have HF := hide hFr; clear hRr hFr))
  go_ret
  exact ⟨rfl, FN.out _ HR.out HF.out, HF.out⟩
set_option maxHeartbeats 600000 in
theorem nremove_any {nb pb : Nat} {L : List (Nat × Nat)} {S : List RS} {w : World} (h : Nt w nb pb L S) (r : Nat) {x : Nat × Nat} {s : RS} (hx : L[r]? = some x) (hs : S[r]? = some s) (hl : s.E.length < 999999) (p : ByteArray) (hp : pathOk p = true) (hpm : p.size ≤ 1000000) :
    Calls Tryz.prog 21 #[.pointer (some ⟨nb, 0, none⟩), .int .i64 r, .string p] w fun e w' => e = .returned (.int .i64 (rmR r s p).1) ∧ Nt w' nb pb L (S.set r (rmR r s p).2) ∧ Fr (fun k => k = x.1 ∨ k = x.2) w w' := by
  have C := hide (placeOf_ok nb S.length pb (L.map (·.1)) r x.1 p w h.net (by rw [List.getElem?_map, hx]; rfl) hp (by unfold maxLen; omega))
  have W1 := hide (rremove_any x.1 r x.2 s w (h.rep r x s hx hs) hl p (by omega))
  have FN : Hid (∀ w', Rg w' x.1 r (rmR r s p).2.cm x.2 (rmR r s p).2.E → Fr (fun k => k = x.1 ∨ k = x.2) w w' → Nt w' nb pb L (S.set r (rmR r s p).2)) := fun w' h1 h2 => h.turn hx h2 h1
  clear h hx hs hp hpm hl
  go_enter Tryz.func21, Tryz.ntmps21
  go_wp2_with (first
    | (go_at_call 29; refine C.out.mono ?_; rintro e w1 ⟨rfl, rfl⟩)
    | (go_at_call 40; refine W1.out.mono ?_; rintro e w2 ⟨rfl, hRr, hFr⟩; have HR := hide hRr; have HF := hide hFr; clear hRr hFr))
  go_ret
  exact ⟨rfl, FN.out _ HR.out HF.out, HF.out⟩
set_option maxHeartbeats 600000 in
theorem nread_any {nb pb : Nat} {L : List (Nat × Nat)} {S : List RS} {w : World} (h : Nt w nb pb L S) (r : Nat) {x : Nat × Nat} {s : RS} (hx : L[r]? = some x) (hs : S[r]? = some s) (p : ByteArray) (hp : pathOk p = true) (hpm : p.size ≤ 1000000) :
    Calls Tryz.prog 25 #[.pointer (some ⟨nb, 0, none⟩), .int .i64 r, .string p] w fun e w' => e = .returned (.tuple #[.string (rdR r s p).1, .int .i64 (rdR r s p).2]) ∧ Nt w' nb pb L S ∧ Below w.heap.size w w' := by
  have C := hide (placeOf_ok nb S.length pb (L.map (·.1)) r x.1 p w h.net (by rw [List.getElem?_map, hx]; rfl) hp (by unfold maxLen; omega))
  have W1 := hide (rread_any x.1 r x.2 s w (h.rep r x s hx hs) p (by unfold maxLen; omega))
  have FN : Hid (∀ w', Below w.heap.size w w' → Nt w' nb pb L S) := fun w' hb => h.below hb
  clear h hx hs hp hpm
  go_enter Tryz.func25, Tryz.ntmps25
  go_wp2_with (first
    | (go_at_call 29; refine C.out.mono ?_; rintro e w1 ⟨rfl, rfl⟩)
    | (go_at_call 42; refine W1.out.mono ?_; rintro e w2 ⟨rfl, hBr⟩; have HB := hide hBr; clear hBr))
  go_ret2
  exact ⟨rfl, FN.out _ HB.out, HB.out⟩
end Go.Proofs.YtaelaldmibgibaaGreat

namespace Go.Proofs.YtaelaldmibgibaaGreat
open Go.RowKit

/-- the states of a new net -/
def newS (n : Nat) : List RS := List.replicate n ⟨fun _ => 0, []⟩
theorem tf_zero (s : Nat) : tf s 0 = fun _ => 0 := tf_nil s
theorem nnew_any (n : Nat) (w : World) (h1 : 1 ≤ n) (h6 : n ≤ 6) :
    Calls Tryz.prog 8 #[.int .i64 n] w fun e w' => e = .returned (.tuple #[.pointer (some ⟨w.heap.size, 0, none⟩), .int .i64 0]) ∧ ∃ pb L, Nt w' w.heap.size pb L (newS n) ∧ L.length = n ∧ w.heap.size ≤ pb ∧ (∀ x ∈ L, w.heap.size ≤ x.1 ∧ w.heap.size ≤ x.2) ∧ Below w.heap.size w w' := by
  refine (netNew_all n w h1 h6).mono ?_
  rintro e w' ⟨rfl, P, hP, hk, hrw, hb⟩
  have hrl : P.rbs.length = n := hP.net.len
  have hml : P.mbs.length = n := hP.ml
  have e1 : (P.rbs.zip P.mbs).map (·.1) = P.rbs := List.map_fst_zip (by omega)
  have e2 : (P.rbs.zip P.mbs).map (·.2) = P.mbs := List.map_snd_zip (by omega)
  have hlen : (newS n).length = n := by simp [newS]
  refine ⟨rfl, P.pb, P.rbs.zip P.mbs, ⟨?_, fun i x s hx hs => ?_, hP.lt _ (.inl rfl), hP.lt _ (.inr (.inl rfl)), ?_, hrw⟩, by simp; omega, hk _ (.inr (.inl rfl)), fun x hx => ?_, hb⟩
  · rw [e1, hlen]; exact hP.net
  · have hx1 : P.rbs[i]? = some x.1 := by rw [← e1, List.getElem?_map, hx]; rfl
    have hx2 : P.mbs[i]? = some x.2 := by rw [← e2, List.getElem?_map, hx]; rfl
    obtain ⟨E, hE, hF⟩ := hP.rep i x.1 x.2 hx1 hx2
    have eE : E = [] := by
      have : filesE E = [] := hF.symm
      simpa [filesE] using this
    subst eE
    have es : s = ⟨fun _ => 0, []⟩ := by
      unfold newS at hs
      rw [List.getElem?_replicate] at hs
      split at hs
      · exact (Option.some.inj hs).symm
      · cases hs
    subst es
    have hr := hE.rep
    have ec : (newAbs n).c i = 0 := rfl
    rw [ec, tf_zero] at hr
    exact ⟨hr, hE.own, hE.ris, fun x hx => by simp at hx, by simp, Int.le_refl 0⟩
  · rw [e1, e2]; exact hP.nd
  · have m1 : x.1 ∈ P.rbs := by rw [← e1]; exact List.mem_map.2 ⟨x, hx, rfl⟩
    have m2 : x.2 ∈ P.mbs := by rw [← e2]; exact List.mem_map.2 ⟨x, hx, rfl⟩
    exact ⟨hk _ (.inr (.inr (.inl m1))), hk _ (.inr (.inr (.inr m2)))⟩
end Go.Proofs.YtaelaldmibgibaaGreat

namespace Go.Proofs.YtaelaldmibgibaaGreat
open Go.RowKit Go.Lib Go.Maps

attribute [local go_sem ↓] eqTime
attribute [local go_sem] run_eqM

theorem recDat_kn {R R' : Rec} (h : recDat R = recDat R') : ∀ j, j < 6 → R.kn j = R'.kn j := by
  simp only [recDat, DataW.agg.injEq, List.cons.injEq, DataW.lit.injEq, Lit.string.injEq, Lit.int.injEq, true_and, and_true] at h
  obtain ⟨_, _, _, _, _, _, _, _, _, h0, h1, h2, h3, h4, h5⟩ := h
  intro j hj
  match j, hj with
  | 0, _ => exact h0
  | 1, _ => exact h1
  | 2, _ => exact h2
  | 3, _ => exact h3
  | 4, _ => exact h4
  | 5, _ => exact h5
theorem rising_one {E : Recs} (hE : RisingE E) {x : ByteArray} {R R' : Rec} (h : (x, R) ∈ E) (h' : (x, R') ∈ E) : R = R' := by
  induction E with
  | nil => simp at h
  | cons z E ih =>
    obtain ⟨p1, p2⟩ := List.pairwise_cons.1 hE
    rcases List.mem_cons.1 h with a1 | a1
    · rcases List.mem_cons.1 h' with b1 | b1
      · have := a1.trans b1.symm; simpa using this
      · rw [← a1] at p1
        have q := slt_ne (p1 (x, R') b1)
        exact absurd rfl q
    · rcases List.mem_cons.1 h' with b1 | b1
      · rw [← b1] at p1
        have q := slt_ne (p1 (x, R) a1)
        exact absurd rfl q
      · exact ih p2 a1 b1
end Go.Proofs.YtaelaldmibgibaaGreat

namespace Go.Proofs.YtaelaldmibgibaaGreat
open Go.RowKit Go.Maps

set_option maxRecDepth 100000 in
set_option maxHeartbeats 2000000 in
theorem rresolve_none (rb s : Nat) (cm : Nat → Int) (mb : Nat) (E : Recs) (rb' s' : Nat) (cm' : Nat → Int) (mb' : Nat) (E' : Recs) (w : World) (h : Rg w rb s cm mb E) (h' : Rg w rb' s' cm' mb' E') (p : ByteArray) (hp : p.size ≤ 1000000000000) (th : Bool) (Ra Ro Rt : Rec) (z : Int) (e1 : recG s cm (getE p E) = Ra) (e2 : recG s' cm' (getE p E') = Ro) (e3 : pullR Ra Ro = (Rt, z)) (hz : z ≠ 3) :
    Calls Tryz.prog 45 #[.pointer (some ⟨rb, 0, none⟩), .pointer (some ⟨rb', 0, none⟩), .string p, .bool th] w fun e w' => e = .returned (.int .i64 4) ∧ Below w.heap.size w w' := by
  have C1 := hide (recordG_any rb s cm mb E w h.rep h.own p (by unfold maxLen; omega))
  have C2 : Hid (∀ V, Below w.heap.size w V → Calls Tryz.prog 48 #[.pointer (some ⟨rb', 0, none⟩), .string p] V fun e w' => e = .returned (recVal Ro) ∧ Below w.heap.size w w') := fun V hb => by
    have q := h'.below hb
    rw [← e2]
    refine (recordG_any rb' s' cm' mb' E' V q.rep q.own p (by unfold maxLen; omega)).mono ?_
    rintro e w' ⟨rfl, hb'⟩
    exact ⟨rfl, hb.trans (hb'.mono hb.size)⟩
  have o1 := recG_ok h p
  have o2 := recG_ok h' p
  rw [e1] at C1 o1
  rw [e2] at o2
  have C3 : Hid (∀ V, Calls Tryz.prog 65 #[recVal Ra, recVal Ro] V fun e w' => e = .returned (.tuple #[recVal Rt, .int .i64 z]) ∧ Below V.heap.size V w') := fun V => by
    have := pull_any Ra Ro o1.2 o2.2 V
    rw [e3] at this
    exact this
  have hz1 : (z == 3) = false := by simpa using hz
  unfold recVal at C1 C2 C3
  clear h h' e1 e2 e3 o1 o2
  go_enter Tryz.func45, Tryz.ntmps45
  go_wp2_with (first
    | (go_at_call_of 48 (Value.pointer (some ⟨rb, 0, none⟩)); refine C1.out.mono ?_; rintro e w1 ⟨rfl, hb1⟩; have B1 := hide hb1; clear hb1)
    | (go_at_call 48; refine (C2.out _ B1.out).mono ?_; rintro e w2 ⟨rfl, hb2⟩; have B2 := hide hb2; have S2 := hide (R2.made w2 Ra Ro); clear hb2)
    | (go_at_call 65; refine (C3.out _).mono ?_; rintro e w3 ⟨rfl, hb3⟩; have S3 := hide (S2.out.more hb3); have B3 := hide (B2.out.trans (S3.out.bel.mono B2.out.size)); clear hb3))
  go_ret
  exact ⟨rfl, B3.out.alloc B3.out.size _⟩
end Go.Proofs.YtaelaldmibgibaaGreat
