/- The program's keep. -/
import Derived.Test.YtaelaldmibgibaaGreatRows
import Derived.WalkKit
import Derived.WalkSpells
import Derived.WalkLawsBesides
import Derived.Deep.AppendLies
import Derived.Deep.MidRow
import Derived.Deep.DrawnRows
import Derived.BigQuiet
import Derived.Deep.QuietTactic
import Derived.Deep.RegionWith
import Derived.Deep.RegionHeld3
import Derived.Test.YtaelaldmibgibaaGreatP02
import Derived.ChangeKeysEq
import Derived.Deep.RegionLaw
import Derived.Deep.DeepMust
import Derived.Maps.OwnSet
import Derived.Maps.OwnOps
import Derived.Maps.Range
import Derived.Test.YtaelaldmibgibaaGreatP01
import Derived.Test.YtaelaldmibgibaaGreatP03
import Derived.Test.YtaelaldmibgibaaGreatP18
import Derived.Test.YtaelaldmibgibaaGreatP04
import Derived.Test.YtaelaldmibgibaaGreatP19
import Derived.Test.YtaelaldmibgibaaGreatP22
import Derived.Test.YtaelaldmibgibaaGreatP20
import Derived.Test.YtaelaldmibgibaaGreatP23
import Derived.Test.YtaelaldmibgibaaGreatP24
import Derived.Test.YtaelaldmibgibaaGreatP25
import Derived.Test.YtaelaldmibgibaaGreatP26
import Derived.Test.YtaelaldmibgibaaGreatP28
import Derived.Test.YtaelaldmibgibaaGreatP29

set_option linter.unusedVariables false
set_option linter.unusedSimpArgs false
set_option linter.unusedSectionVars false

namespace Go.Proofs.YtaelaldmibgibaaGreat
open Go.RowKit Go.Maps

theorem Fr.turned {S : Nat → Prop} {a w w' : World} {b : Nat} (h : Fr S a w) (ht : w.mapTurned w' b) (hb : S b ∨ a.heap.size ≤ b) : Fr S a w' := by
  obtain ⟨es, clock, es', clock', h0, rfl⟩ := ht
  refine ⟨h.os, h.tape, h.output, by simpa [ChangeMaps.setBlock] using h.size, fun k hk hs => ?_⟩
  rw [ChangeMaps.heap_setBlock_other h0 _ (by rintro rfl; rcases hb with hb | hb; exact hs hb; omega)]
  exact h.block k hk hs

theorem turned_keep {w w' : World} {b k : Nat} (ht : w.mapTurned w' b) (hk : k ≠ b) : w'.heap[k]? = w.heap[k]? := by
  obtain ⟨es, clock, es', clock', h0, rfl⟩ := ht
  exact ChangeMaps.heap_setBlock_other h0 _ hk
theorem Below.undrew {a w : World} (h : Below a.drew.heap.size a.drew w) : Below a.heap.size a w := ⟨h.os, h.tape, h.output, h.size, h.block⟩

/-- kept from the walk's own way -/
def muM (t : TypeId) (m k v : Value) : Sem Unit := Instr.mapUpdate t m k v
theorem muEq (t : TypeId) (m k v : Value) : Instr.mapUpdate t m k v = muM t m k v := rfl
attribute [local go_sem ↓] muEq

/-- what stands behind the first half of keep -/
structure Kp (w w1 : World) (rb s : Nat) (cm : Nat → Int) (mb : Nat) (E : Recs) (R : Rec) : Prop where
  rc : RecAt w1 w.heap.size R
  rep : RepAt w1 rb s cm mb
  own : w1.ownsMap Tryz.prog 9 recElem mb E.length (datOf E)
  below : Below w.heap.size w w1
  size : w.heap.size < w1.heap.size
theorem RepAt.ne {w : World} {rb s : Nat} {cm : Nat → Int} {mb : Nat} (h : RepAt w rb s cm mb) {n : Nat} {D : DataW Unit} (ho : w.ownsMap Tryz.prog 9 recElem mb n D) : rb ≠ mb := by
  obtain ⟨es, clock, hb, _⟩ := ho
  intro e
  have := h.blk
  rw [e, hb] at this
  cases this
theorem ownsMap_keep {w w' : World} {mb n : Nat} {D : DataW Unit} (h : w.ownsMap Tryz.prog 9 recElem mb n D) (hk : w'.heap[mb]? = w.heap[mb]?) : w'.ownsMap Tryz.prog 9 recElem mb n D := by
  obtain ⟨es, clock, hb, r⟩ := h
  exact ⟨es, clock, by rw [hk]; exact hb, r⟩
theorem Kp.more {w w1 w2 : World} {rb s : Nat} {cm : Nat → Int} {mb : Nat} {E : Recs} {R : Rec} (h : Kp w w1 rb s cm mb E R) (hb : Below w1.heap.size w1 w2) : Kp w w2 rb s cm mb E R :=
  ⟨⟨by rw [hb.block _ h.size]; exact h.rc.blk⟩, h.rep.keep (hb.block _ h.rep.lt), ownsMap_keep h.own (hb.block _ h.own.lt), h.below.trans (hb.mono h.below.size), Nat.lt_of_lt_of_le h.size hb.size⟩
theorem Kp.made {w : World} {rb s : Nat} {cm : Nat → Int} {mb : Nat} {E : Recs} (h : RepAt w rb s cm mb) (ho : w.ownsMap Tryz.prog 9 recElem mb E.length (datOf E)) (R : Rec) (k : Nat) :
    Kp w ((w.alloc (.cells #[.string R.text, .int .i64 R.br, .int .i64 R.bn, .int .i64 (R.ch 0), .int .i64 (R.ch 1), .int .i64 (R.ch 2), .int .i64 (R.ch 3), .int .i64 (R.ch 4), .int .i64 (R.ch 5), .int .i64 (R.kn 0), .int .i64 (R.kn 1), .int .i64 (R.kn 2), .int .i64 (R.kn 3), .int .i64 (R.kn 4), .int .i64 (R.kn 5)] 120)).drewN k) rb s cm mb E R := by
  refine ⟨⟨heap_alloc_new _ _⟩, h.keep (Below.heap_alloc _ _ _ h.lt), ownsMap_keep ho (Below.heap_alloc _ _ _ ho.lt), ?_, ?_⟩
  · have := (Below.refl w.heap.size w).alloc (Nat.le_refl _) (.cells #[.string R.text, .int .i64 R.br, .int .i64 R.bn, .int .i64 (R.ch 0), .int .i64 (R.ch 1), .int .i64 (R.ch 2), .int .i64 (R.ch 3), .int .i64 (R.ch 4), .int .i64 (R.ch 5), .int .i64 (R.kn 0), .int .i64 (R.kn 1), .int .i64 (R.kn 2), .int .i64 (R.kn 3), .int .i64 (R.kn 4), .int .i64 (R.kn 5)] 120)
    exact ⟨this.os, this.tape, this.output, this.size, this.block⟩
  · show w.heap.size < (w.alloc _).heap.size
    simp
theorem RecAt.cells {w b R} (h : RecAt w b R) : w.cell? ⟨b, 0, none⟩ = some (.string R.text) ∧ w.cell? ⟨b, 1, none⟩ = some (.int .i64 R.br) ∧ w.cell? ⟨b, 2, none⟩ = some (.int .i64 R.bn) ∧ w.cell? ⟨b, 3, none⟩ = some (.int .i64 (R.ch 0)) ∧ w.cell? ⟨b, 4, none⟩ = some (.int .i64 (R.ch 1)) ∧ w.cell? ⟨b, 5, none⟩ = some (.int .i64 (R.ch 2)) ∧ w.cell? ⟨b, 6, none⟩ = some (.int .i64 (R.ch 3)) ∧ w.cell? ⟨b, 7, none⟩ = some (.int .i64 (R.ch 4)) ∧ w.cell? ⟨b, 8, none⟩ = some (.int .i64 (R.ch 5)) ∧ w.cell? ⟨b, 9, none⟩ = some (.int .i64 (R.kn 0)) ∧ w.cell? ⟨b, 10, none⟩ = some (.int .i64 (R.kn 1)) ∧ w.cell? ⟨b, 11, none⟩ = some (.int .i64 (R.kn 2)) ∧ w.cell? ⟨b, 12, none⟩ = some (.int .i64 (R.kn 3)) ∧ w.cell? ⟨b, 13, none⟩ = some (.int .i64 (R.kn 4)) ∧ w.cell? ⟨b, 14, none⟩ = some (.int .i64 (R.kn 5)) := by
  refine ⟨?_, ?_, ?_, ?_, ?_, ?_, ?_, ?_, ?_, ?_, ?_, ?_, ?_, ?_, ?_⟩ <;> (simp only [World.cell?, h.blk]; rfl)

set_option maxRecDepth 100000 in
set_option maxHeartbeats 800000 in
theorem keep_in (rb s : Nat) (cm : Nat → Int) (mb : Nat) (w : World) (h : RepAt w rb s cm mb) (E : Recs) (hE : RisingE E) (hl : E.length < maxLen) (hown : w.ownsMap Tryz.prog 9 recElem mb E.length (datOf E)) (p : ByteArray) (hp : p.size ≤ 1000000000000) (R : Rec) (hbn : 0 < R.bn) :
    Calls Tryz.prog 56 #[.pointer (some ⟨rb, 0, none⟩), .string p, .agg #[.string R.text, .int .i64 R.br, .int .i64 R.bn, .int .i64 (R.ch 0), .int .i64 (R.ch 1), .int .i64 (R.ch 2), .int .i64 (R.ch 3), .int .i64 (R.ch 4), .int .i64 (R.ch 5), .int .i64 (R.kn 0), .int .i64 (R.kn 1), .int .i64 (R.kn 2), .int .i64 (R.kn 3), .int .i64 (R.kn 4), .int .i64 (R.kn 5)]] w fun e w' => e = .returned (.tuple #[]) ∧ RepAt w' rb s cm mb ∧ w'.ownsMap Tryz.prog 9 recElem mb (putE p R E).length (datOf (putE p R E)) ∧ Fr (fun k => k = mb) w w' := by
  have hkey : keyOf Tryz.prog 9 (.string p) = some (key p) := Go.WideMaps.keyOf_string_mk Tryz.underlying9 (by unfold maxLen; omega)
  have KM := hide (fun k => Kp.made h hown R k)
  have hlt := h.lt
  have hne : rb ≠ w.heap.size := by omega
  have r1 := h.ct 0 (by omega)
  have r2 := h.ct 1 (by omega)
  have r3 := h.ct 2 (by omega)
  have r4 := h.ct 3 (by omega)
  have r5 := h.ct 4 (by omega)
  have r6 := h.ct 5 (by omega)
  simp only [Nat.reduceAdd] at r1 r2 r3 r4 r5 r6
  clear h hown
  go_enter Tryz.func56, Tryz.ntmps56
  go_wp2
  go_region_law (first
    | (go_simp; go_at_call 72; refine (mustBeKept_yes _ _ _ R.ch R.kn cm _ hbn).mono ?_; rintro e w1 ⟨rfl, hb1⟩; dsimp only))
  all_goals
    have K1 := hide ((KM.out 1).more hb1)
    clear hb1 KM r1 r2 r3 r4 r5 r6
    obtain ⟨k0, k1, k2, k3, k4, k5, k6, k7, k8, k9, k10, k11, k12, k13, k14⟩ := K1.out.rc.cells
    have c7 := K1.out.rep.c7
    go_wp2
    go_region_law (first
      | (go_simp; go_at_call 53; refine (clone_any p _ hp).mono ?_; rintro e w2 ⟨rfl, hb2⟩; have K2 := hide (K1.out.more (Below.undrew hb2)); clear hb2; obtain ⟨q0, q1, q2, q3, q4, q5, q6, q7, q8, q9, q10, q11, q12, q13, q14⟩ := K2.out.rc.cells; have c7' := K2.out.rep.c7; obtain ⟨w3, hrun, hown3, hturn⟩ := K2.out.own.store lawS Tryz.underlying106 hl hkey (recElem_mk R); have hrun' : (muM 106 (.map (some mb)) (.string p) (.agg #[.string R.text, .int .i64 R.br, .int .i64 R.bn, .int .i64 (R.ch 0), .int .i64 (R.ch 1), .int .i64 (R.ch 2), .int .i64 (R.ch 3), .int .i64 (R.ch 4), .int .i64 (R.ch 5), .int .i64 (R.kn 0), .int .i64 (R.kn 1), .int .i64 (R.kn 2), .int .i64 (R.kn 3), .int .i64 (R.kn 4), .int .i64 (R.kn 5)])).run Tryz.prog w2 = .ok () w3 := hrun; have HO := hide hown3; have HT := hide hturn; clear hrun hown3 hturn; dsimp only))
  all_goals
    have ne := K2.out.rep.ne K2.out.own
    have F2 : Hid (Fr (fun k => k = mb) w w3) := (Fr.of_below K2.out.below).turned HT.out (.inl rfl)
    have R3 := hide (K2.out.rep.keep (turned_keep HT.out ne))
    have O3 := hide (ownsMap_tight (by have := HO.out; rw [datOf_put p R E hE] at this; exact this))
    go_wp2
    go_end0
    exact ⟨rfl, R3.out, O3.out, F2.out⟩

set_option maxRecDepth 100000 in
set_option maxHeartbeats 800000 in
theorem keep_out (rb s : Nat) (cm : Nat → Int) (mb : Nat) (w : World) (h : RepAt w rb s cm mb) (E : Recs) (hE : RisingE E) (hown : w.ownsMap Tryz.prog 9 recElem mb E.length (datOf E)) (p : ByteArray) (hp : p.size ≤ 1000000000000) (R : Rec) (hbn : R.bn = 0) (hkn : eqT R.kn cm = true) :
    Calls Tryz.prog 56 #[.pointer (some ⟨rb, 0, none⟩), .string p, .agg #[.string R.text, .int .i64 R.br, .int .i64 R.bn, .int .i64 (R.ch 0), .int .i64 (R.ch 1), .int .i64 (R.ch 2), .int .i64 (R.ch 3), .int .i64 (R.ch 4), .int .i64 (R.ch 5), .int .i64 (R.kn 0), .int .i64 (R.kn 1), .int .i64 (R.kn 2), .int .i64 (R.kn 3), .int .i64 (R.kn 4), .int .i64 (R.kn 5)]] w fun e w' => e = .returned (.tuple #[]) ∧ RepAt w' rb s cm mb ∧ w'.ownsMap Tryz.prog 9 recElem mb (delE p E).length (datOf (delE p E)) ∧ Fr (fun k => k = mb) w w' := by
  have hkey : keyOf Tryz.prog 9 (.string p) = some (key p) := Go.WideMaps.keyOf_string_mk Tryz.underlying9 (by unfold maxLen; omega)
  have KM := hide (fun k => Kp.made h hown R k)
  have hlt := h.lt
  have hne : rb ≠ w.heap.size := by omega
  have r1 := h.ct 0 (by omega)
  have r2 := h.ct 1 (by omega)
  have r3 := h.ct 2 (by omega)
  have r4 := h.ct 3 (by omega)
  have r5 := h.ct 4 (by omega)
  have r6 := h.ct 5 (by omega)
  simp only [Nat.reduceAdd] at r1 r2 r3 r4 r5 r6
  clear h hown
  have MK := hide (fun V => mustBeKept_no R.text R.br R.bn R.ch R.kn cm V (by omega))
  rw [hkn] at MK
  clear hkn hbn
  go_enter Tryz.func56, Tryz.ntmps56
  go_wp2
  go_region_law (first
    | (go_simp; go_at_call 72; refine (MK.out _).mono ?_; rintro e w1 ⟨rfl, hb1⟩; dsimp only))
  all_goals
    have K1 := hide ((KM.out 1).more hb1)
    clear hb1 KM r1 r2 r3 r4 r5 r6
    have c7 := K1.out.rep.c7
    have O1 := K1.out.own
    go_wp2_with (at_delete; refine wpList_delete_own _ rfl _ _ 106 9 rfl 120 lawS Tryz.underlying106 _ mb E.length (datOf E) rfl O1 _ _ rfl hkey ?_; intro w3 hown3 hturn; have HO := hide hown3; have HT := hide hturn; clear hown3 hturn)
    have ne := K1.out.rep.ne K1.out.own
    have F2 : Hid (Fr (fun k => k = mb) w w3) := (Fr.of_below K1.out.below).turned HT.out (.inl rfl)
    have R3 := hide (K1.out.rep.keep (turned_keep HT.out ne))
    have O3 := hide (ownsMap_tight (by have := HO.out; rw [datOf_del p E hE] at this; exact this))
    go_wp2
    go_end0
    exact ⟨rfl, R3.out, O3.out, F2.out⟩

end Go.Proofs.YtaelaldmibgibaaGreat
