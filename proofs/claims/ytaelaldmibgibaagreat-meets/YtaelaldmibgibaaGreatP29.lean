/- The program's recordOf, of a path that is not kept. -/
import Derived.Test.YtaelaldmibgibaaGreatRows
import Derived.WalkKit
import Derived.WalkSpells
import Derived.WalkLawsBesides
import Derived.Deep.AppendLies
import Derived.Deep.MidRow
import Derived.Deep.DrawnRows
import Derived.BigQuiet
import Derived.Deep.QuietTactic
import Derived.Deep.RegionWith
import Derived.Deep.RegionHeld3
import Derived.Test.YtaelaldmibgibaaGreatP02
import Derived.ChangeKeysEq
import Derived.Deep.RegionLaw
import Derived.Deep.DeepMust
import Derived.Maps.OwnSet
import Derived.Maps.OwnOps
import Derived.Test.YtaelaldmibgibaaGreatP01
import Derived.Test.YtaelaldmibgibaaGreatP03
import Derived.Test.YtaelaldmibgibaaGreatP18
import Derived.Test.YtaelaldmibgibaaGreatP04
import Derived.Test.YtaelaldmibgibaaGreatP19
import Derived.Test.YtaelaldmibgibaaGreatP22
import Derived.Test.YtaelaldmibgibaaGreatP20
import Derived.Test.YtaelaldmibgibaaGreatP23
import Derived.Test.YtaelaldmibgibaaGreatP24
import Derived.Test.YtaelaldmibgibaaGreatP25
import Derived.Test.YtaelaldmibgibaaGreatP26
import Derived.Test.YtaelaldmibgibaaGreatP28

set_option linter.unusedVariables false
set_option linter.unusedSimpArgs false
set_option linter.unusedSectionVars false

namespace Go.Proofs.YtaelaldmibgibaaGreat
open Go.RowKit Go.Maps

theorem upT_self (t : Nat → Int) (s : Nat) : upT t s (t s) = t := by
  funext j
  unfold upT
  split
  · rename_i e; rw [e]
  · rfl

set_option maxRecDepth 100000 in
set_option maxHeartbeats 600000 in
theorem recordOf_new (rb s : Nat) (cm : Nat → Int) (mb : Nat) (w : World) (h : RepAt w rb s cm mb) (n : Nat) (D : DataW Unit) (hown : w.ownsMap Tryz.prog 9 recElem mb n D) (p : ByteArray) (hp : p.size ≤ maxLen)
    (hk : Maps.has D (.string p.data.toList) = false) (hat : D.atKey (.string p.data.toList) (recDat rec0) = recDat rec0) :
    Calls Tryz.prog 48 #[.pointer (some ⟨rb, 0, none⟩), .string p] w fun e w' => e = .returned (recVal ⟨⟨#[]⟩, 0, 0, fun _ => 0, cm⟩) ∧ Below w.heap.size w w' := by
  have hkey := Go.WideMaps.keyOf_string_mk Tryz.underlying9 hp
  have c0 := h.c0
  have c7 := h.c7
  have r1 := h.ct 0 (by omega)
  have r2 := h.ct 1 (by omega)
  have r3 := h.ct 2 (by omega)
  have r4 := h.ct 3 (by omega)
  have r5 := h.ct 4 (by omega)
  have r6 := h.ct 5 (by omega)
  simp only [Nat.reduceAdd] at r1 r2 r3 r4 r5 r6
  have hs := h.hs
  have hlt := h.lt
  have LE := hide (look_end h ⟨⟨#[]⟩, 0, 0, fun _ => 0, cm⟩)
  clear h
  go_enter Tryz.func48, Tryz.ntmps48
  go_wp2_with (first
    | (at_lookup; refine wpList_lookup_rec _ rfl _ _ _ rfl Tryz.underlying106 mb n D rfl (by first | exact hown | exact hown.alloc _) _ _ rfl hkey false hk rec0 hat ?_; simp only [recVal, rec0]))
  obtain ⟨W, hW⟩ : ∃ W, W = (w.alloc (.cells #[.string ⟨#[]⟩, .int .i64 0, .int .i64 0, .int .i64 0, .int .i64 0, .int .i64 0, .int .i64 0, .int .i64 0, .int .i64 0, .int .i64 0, .int .i64 0, .int .i64 0, .int .i64 0, .int .i64 0, .int .i64 0] 120)).alloc (.cells #[.string ⟨#[]⟩, .int .i64 0, .int .i64 0, .int .i64 0, .int .i64 0, .int .i64 0, .int .i64 0, .int .i64 0, .int .i64 0, .int .i64 (cm 0), .int .i64 (cm 1), .int .i64 (cm 2), .int .i64 (cm 3), .int .i64 (cm 4), .int .i64 (cm 5)] 120) := ⟨_, rfl⟩
  rw [← hW]
  have LW : Hid (RecAt W (w.heap.size + 1) ⟨⟨#[]⟩, 0, 0, fun _ => 0, cm⟩ ∧ RepAt W rb s cm mb ∧ Below w.heap.size w W) := by rw [hW]; exact LE
  have HW := hide hW
  clear hW LE hown hkey hk hat c0 c7 r1 r2 r3 r4 r5 r6
  have c0 := LW.out.2.1.c0
  have kq : W.cell? ⟨w.heap.size + 1, 9 + s, none⟩ = some (.int .i64 (cm s)) := LW.out.1.kn s hs
  have kf := LW.out.1.fz (9 + s)
  have hs1 : (0 : Int) ≤ (s : Int) := by omega
  have hs2 : (s : Int) < 6 := by omega
  have CN := hide (fun (V : World) (e0 : V.heap[rb]? = W.heap[rb]?) => count_any rb s cm mb V (LW.out.2.1.keep e0))
  go_region_law (first
    | (go_simp; go_at_call 68; refine (CN.out _ (by exact rfl)).mono ?_; rintro e w1 ⟨rfl, nq, rfl⟩; dsimp only))
  all_goals
    have e := HW.out
    subst e
    have RE := rec_end w ⟨⟨#[]⟩, 0, 0, fun _ => 0, cm⟩ s hs (cm s) (1 + nq)
    simp only at RE
    rw [RE]
    clear RE HW LW c0 kq kf CN
    generalize hkn : upT cm s (cm s) = kn
    have HK : Hid (kn = cm) := hkn.symm.trans (upT_self cm s)
    clear hkn
    obtain ⟨V, hV, hz⟩ : ∃ V, V = w.drewN (1 + nq) ∧ w.heap.size = V.heap.size := ⟨_, rfl, rfl⟩
    rw [← hV, hz]
    have bV : Below w.heap.size w V := by rw [hV]; exact ⟨rfl, rfl, rfl, Nat.le_refl _, fun _ _ => rfl⟩
    have HB := hide bV
    clear hV hz bV
    go_wp2
    refine bodyPost_ret (v := .agg #[.string ⟨#[]⟩, .int .i64 0, .int .i64 0, .int .i64 0, .int .i64 0, .int .i64 0, .int .i64 0, .int .i64 0, .int .i64 0, .int .i64 (kn 0), .int .i64 (kn 1), .int .i64 (kn 2), .int .i64 (kn 3), .int .i64 (kn 4), .int .i64 (kn 5)]) (by simp [results, Tryz.results48, go_sem]) rfl ?_
    refine ⟨?_, (HB.out.alloc HB.out.size _).alloc (Nat.le_trans HB.out.size (by simp)) _⟩
    rw [HK.out]
    rfl

end Go.Proofs.YtaelaldmibgibaaGreat
