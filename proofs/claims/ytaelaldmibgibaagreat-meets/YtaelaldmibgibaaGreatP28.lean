/- The program's recordOf. -/
import Derived.Test.YtaelaldmibgibaaGreatRows
import Derived.WalkKit
import Derived.WalkSpells
import Derived.WalkLawsBesides
import Derived.Deep.AppendLies
import Derived.Deep.MidRow
import Derived.Deep.DrawnRows
import Derived.BigQuiet
import Derived.Deep.QuietTactic
import Derived.Deep.RegionWith
import Derived.Deep.RegionHeld3
import Derived.Test.YtaelaldmibgibaaGreatP02
import Derived.ChangeKeysEq
import Derived.Deep.RegionLaw
import Derived.Deep.DeepMust
import Derived.Maps.OwnSet
import Derived.Maps.OwnOps
import Derived.Test.YtaelaldmibgibaaGreatP01
import Derived.Test.YtaelaldmibgibaaGreatP03
import Derived.Test.YtaelaldmibgibaaGreatP18
import Derived.Test.YtaelaldmibgibaaGreatP04
import Derived.Test.YtaelaldmibgibaaGreatP19
import Derived.Test.YtaelaldmibgibaaGreatP22
import Derived.Test.YtaelaldmibgibaaGreatP20
import Derived.Test.YtaelaldmibgibaaGreatP23
import Derived.Test.YtaelaldmibgibaaGreatP24
import Derived.Test.YtaelaldmibgibaaGreatP25
import Derived.Test.YtaelaldmibgibaaGreatP26

set_option linter.unusedVariables false
set_option linter.unusedSimpArgs false
set_option linter.unusedSectionVars false

namespace Go.Proofs.YtaelaldmibgibaaGreat
open Go.RowKit Go.Maps

/-- a time with one number laid in -/
def upT (t : Nat → Int) (s : Nat) (x : Int) : Nat → Int := fun j => if j = s then x else t j

/-- a record in a block of its own -/
structure RecAt (w : World) (b : Nat) (R : Rec) : Prop where
  blk : w.heap[b]? = some (.cells #[.string R.text, .int .i64 R.br, .int .i64 R.bn, .int .i64 (R.ch 0), .int .i64 (R.ch 1), .int .i64 (R.ch 2), .int .i64 (R.ch 3), .int .i64 (R.ch 4), .int .i64 (R.ch 5), .int .i64 (R.kn 0), .int .i64 (R.kn 1), .int .i64 (R.kn 2), .int .i64 (R.kn 3), .int .i64 (R.kn 4), .int .i64 (R.kn 5)] 120 (0, 0))
theorem RecAt.kn {w b R} (h : RecAt w b R) (j : Nat) (hj : j < 6) : w.cell? ⟨b, 9 + j, none⟩ = some (.int .i64 (R.kn j)) := by
  simp only [World.cell?, h.blk]
  match j, hj with
  | 0, _ | 1, _ | 2, _ | 3, _ | 4, _ | 5, _ => rfl
theorem RecAt.fz {w b R} (h : RecAt w b R) (j : Nat) : w.frozen? ⟨b, j, none⟩ = false := by simp [World.frozen?, h.blk]
/-- behind the look-up: two new blocks -/
theorem look_end {w : World} {rb s : Nat} {cm : Nat → Int} {mb : Nat} (h : RepAt w rb s cm mb) (R : Rec) :
    RecAt ((w.alloc (.cells #[.string ⟨#[]⟩, .int .i64 0, .int .i64 0, .int .i64 0, .int .i64 0, .int .i64 0, .int .i64 0, .int .i64 0, .int .i64 0, .int .i64 0, .int .i64 0, .int .i64 0, .int .i64 0, .int .i64 0, .int .i64 0] 120)).alloc (.cells #[.string R.text, .int .i64 R.br, .int .i64 R.bn, .int .i64 (R.ch 0), .int .i64 (R.ch 1), .int .i64 (R.ch 2), .int .i64 (R.ch 3), .int .i64 (R.ch 4), .int .i64 (R.ch 5), .int .i64 (R.kn 0), .int .i64 (R.kn 1), .int .i64 (R.kn 2), .int .i64 (R.kn 3), .int .i64 (R.kn 4), .int .i64 (R.kn 5)] 120)) (w.heap.size + 1) R ∧ RepAt ((w.alloc (.cells #[.string ⟨#[]⟩, .int .i64 0, .int .i64 0, .int .i64 0, .int .i64 0, .int .i64 0, .int .i64 0, .int .i64 0, .int .i64 0, .int .i64 0, .int .i64 0, .int .i64 0, .int .i64 0, .int .i64 0, .int .i64 0] 120)).alloc (.cells #[.string R.text, .int .i64 R.br, .int .i64 R.bn, .int .i64 (R.ch 0), .int .i64 (R.ch 1), .int .i64 (R.ch 2), .int .i64 (R.ch 3), .int .i64 (R.ch 4), .int .i64 (R.ch 5), .int .i64 (R.kn 0), .int .i64 (R.kn 1), .int .i64 (R.kn 2), .int .i64 (R.kn 3), .int .i64 (R.kn 4), .int .i64 (R.kn 5)] 120)) rb s cm mb ∧ Below w.heap.size w ((w.alloc (.cells #[.string ⟨#[]⟩, .int .i64 0, .int .i64 0, .int .i64 0, .int .i64 0, .int .i64 0, .int .i64 0, .int .i64 0, .int .i64 0, .int .i64 0, .int .i64 0, .int .i64 0, .int .i64 0, .int .i64 0, .int .i64 0] 120)).alloc (.cells #[.string R.text, .int .i64 R.br, .int .i64 R.bn, .int .i64 (R.ch 0), .int .i64 (R.ch 1), .int .i64 (R.ch 2), .int .i64 (R.ch 3), .int .i64 (R.ch 4), .int .i64 (R.ch 5), .int .i64 (R.kn 0), .int .i64 (R.kn 1), .int .i64 (R.kn 2), .int .i64 (R.kn 3), .int .i64 (R.kn 4), .int .i64 (R.kn 5)] 120)) := by
  have hb : Below w.heap.size w ((w.alloc (.cells #[.string ⟨#[]⟩, .int .i64 0, .int .i64 0, .int .i64 0, .int .i64 0, .int .i64 0, .int .i64 0, .int .i64 0, .int .i64 0, .int .i64 0, .int .i64 0, .int .i64 0, .int .i64 0, .int .i64 0, .int .i64 0] 120)).alloc (.cells #[.string R.text, .int .i64 R.br, .int .i64 R.bn, .int .i64 (R.ch 0), .int .i64 (R.ch 1), .int .i64 (R.ch 2), .int .i64 (R.ch 3), .int .i64 (R.ch 4), .int .i64 (R.ch 5), .int .i64 (R.kn 0), .int .i64 (R.kn 1), .int .i64 (R.kn 2), .int .i64 (R.kn 3), .int .i64 (R.kn 4), .int .i64 (R.kn 5)] 120)) := ((Below.refl _ _).alloc (Nat.le_refl _) _).alloc (by simp) _
  refine ⟨⟨?_⟩, h.keep (hb.block rb h.lt), hb⟩
  have e : (w.alloc (.cells #[.string ⟨#[]⟩, .int .i64 0, .int .i64 0, .int .i64 0, .int .i64 0, .int .i64 0, .int .i64 0, .int .i64 0, .int .i64 0, .int .i64 0, .int .i64 0, .int .i64 0, .int .i64 0, .int .i64 0, .int .i64 0] 120)).heap.size = w.heap.size + 1 := by simp
  rw [← e]
  exact heap_alloc_new _ _

/-- the own number laid in: two new blocks still -/
theorem rec_end (w : World) (R : Rec) (s : Nat) (hs : s < 6) (x : Int) (k : Nat) :
    (((w.alloc (.cells #[.string ⟨#[]⟩, .int .i64 0, .int .i64 0, .int .i64 0, .int .i64 0, .int .i64 0, .int .i64 0, .int .i64 0, .int .i64 0, .int .i64 0, .int .i64 0, .int .i64 0, .int .i64 0, .int .i64 0, .int .i64 0] 120)).alloc (.cells #[.string R.text, .int .i64 R.br, .int .i64 R.bn, .int .i64 (R.ch 0), .int .i64 (R.ch 1), .int .i64 (R.ch 2), .int .i64 (R.ch 3), .int .i64 (R.ch 4), .int .i64 (R.ch 5), .int .i64 (R.kn 0), .int .i64 (R.kn 1), .int .i64 (R.kn 2), .int .i64 (R.kn 3), .int .i64 (R.kn 4), .int .i64 (R.kn 5)] 120)).drewN k).setCell ⟨w.heap.size + 1, 9 + s, none⟩ (.int .i64 x) = ((w.drewN k).alloc (.cells #[.string ⟨#[]⟩, .int .i64 0, .int .i64 0, .int .i64 0, .int .i64 0, .int .i64 0, .int .i64 0, .int .i64 0, .int .i64 0, .int .i64 0, .int .i64 0, .int .i64 0, .int .i64 0, .int .i64 0, .int .i64 0] 120)).alloc (.cells #[.string R.text, .int .i64 R.br, .int .i64 R.bn, .int .i64 (R.ch 0), .int .i64 (R.ch 1), .int .i64 (R.ch 2), .int .i64 (R.ch 3), .int .i64 (R.ch 4), .int .i64 (R.ch 5), .int .i64 (upT R.kn s x 0), .int .i64 (upT R.kn s x 1), .int .i64 (upT R.kn s x 2), .int .i64 (upT R.kn s x 3), .int .i64 (upT R.kn s x 4), .int .i64 (upT R.kn s x 5)] 120) := by
  have e : ((w.alloc (.cells #[.string ⟨#[]⟩, .int .i64 0, .int .i64 0, .int .i64 0, .int .i64 0, .int .i64 0, .int .i64 0, .int .i64 0, .int .i64 0, .int .i64 0, .int .i64 0, .int .i64 0, .int .i64 0, .int .i64 0, .int .i64 0] 120)).alloc (.cells #[.string R.text, .int .i64 R.br, .int .i64 R.bn, .int .i64 (R.ch 0), .int .i64 (R.ch 1), .int .i64 (R.ch 2), .int .i64 (R.ch 3), .int .i64 (R.ch 4), .int .i64 (R.ch 5), .int .i64 (R.kn 0), .int .i64 (R.kn 1), .int .i64 (R.kn 2), .int .i64 (R.kn 3), .int .i64 (R.kn 4), .int .i64 (R.kn 5)] 120)).drewN k = ((w.drewN k).alloc (.cells #[.string ⟨#[]⟩, .int .i64 0, .int .i64 0, .int .i64 0, .int .i64 0, .int .i64 0, .int .i64 0, .int .i64 0, .int .i64 0, .int .i64 0, .int .i64 0, .int .i64 0, .int .i64 0, .int .i64 0, .int .i64 0] 120)).alloc (.cells #[.string R.text, .int .i64 R.br, .int .i64 R.bn, .int .i64 (R.ch 0), .int .i64 (R.ch 1), .int .i64 (R.ch 2), .int .i64 (R.ch 3), .int .i64 (R.ch 4), .int .i64 (R.ch 5), .int .i64 (R.kn 0), .int .i64 (R.kn 1), .int .i64 (R.kn 2), .int .i64 (R.kn 3), .int .i64 (R.kn 4), .int .i64 (R.kn 5)] 120) := rfl
  rw [e]
  rw [World.setCell_alloc_at _ _ _ _ _ (by simp [World.drewN])]
  match s, hs with
  | 0, _ | 1, _ | 2, _ | 3, _ | 4, _ | 5, _ => simp [upT]

set_option maxRecDepth 100000 in
set_option maxHeartbeats 600000 in
theorem recordOf_kept (rb s : Nat) (cm : Nat → Int) (mb : Nat) (w : World) (h : RepAt w rb s cm mb) (n : Nat) (D : DataW Unit) (hown : w.ownsMap Tryz.prog 9 recElem mb n D) (p : ByteArray) (hp : p.size ≤ maxLen) (R : Rec)
    (hk : Maps.has D (.string p.data.toList) = true) (hat : D.atKey (.string p.data.toList) (recDat rec0) = recDat R) :
    Calls Tryz.prog 48 #[.pointer (some ⟨rb, 0, none⟩), .string p] w fun e w' => e = .returned (recVal ⟨R.text, R.br, R.bn, R.ch, upT R.kn s (cm s)⟩) ∧ Below w.heap.size w w' := by
  have hkey := Go.WideMaps.keyOf_string_mk Tryz.underlying9 hp
  have c0 := h.c0
  have c7 := h.c7
  have hs := h.hs
  have hlt := h.lt
  have LE := hide (look_end h R)
  clear h
  go_enter Tryz.func48, Tryz.ntmps48
  go_wp2_with (first
    | (at_lookup; refine wpList_lookup_rec _ rfl _ _ _ rfl Tryz.underlying106 mb n D rfl (by first | exact hown | exact hown.alloc _) _ _ rfl hkey true hk R hat ?_; simp only [recVal]))
  obtain ⟨W, hW⟩ : ∃ W, W = (w.alloc (.cells #[.string ⟨#[]⟩, .int .i64 0, .int .i64 0, .int .i64 0, .int .i64 0, .int .i64 0, .int .i64 0, .int .i64 0, .int .i64 0, .int .i64 0, .int .i64 0, .int .i64 0, .int .i64 0, .int .i64 0, .int .i64 0] 120)).alloc (.cells #[.string R.text, .int .i64 R.br, .int .i64 R.bn, .int .i64 (R.ch 0), .int .i64 (R.ch 1), .int .i64 (R.ch 2), .int .i64 (R.ch 3), .int .i64 (R.ch 4), .int .i64 (R.ch 5), .int .i64 (R.kn 0), .int .i64 (R.kn 1), .int .i64 (R.kn 2), .int .i64 (R.kn 3), .int .i64 (R.kn 4), .int .i64 (R.kn 5)] 120) := ⟨_, rfl⟩
  rw [← hW]
  have LW : Hid (RecAt W (w.heap.size + 1) R ∧ RepAt W rb s cm mb ∧ Below w.heap.size w W) := by rw [hW]; exact LE
  have HW := hide hW
  clear hW LE hown hkey hk hat c0 c7
  have c0 := LW.out.2.1.c0
  have kq := LW.out.1.kn s hs
  have kf := LW.out.1.fz (9 + s)
  have hs1 : (0 : Int) ≤ (s : Int) := by omega
  have hs2 : (s : Int) < 6 := by omega
  have CN := hide (fun (V : World) (e0 : V.heap[rb]? = W.heap[rb]?) => count_any rb s cm mb V (LW.out.2.1.keep e0))
  go_region_law (first
    | (go_simp; go_at_call 68; refine (CN.out _ (by exact rfl)).mono ?_; rintro e w1 ⟨rfl, nq, rfl⟩; dsimp only))
  all_goals
    have e := HW.out
    subst e
    rw [rec_end w R s hs]
    clear HW LW c0 kq kf CN
    generalize hkn : upT R.kn s (cm s) = kn
    have HK := hide hkn
    clear hkn
    obtain ⟨V, hV, hz⟩ : ∃ V, V = w.drewN (1 + nq) ∧ w.heap.size = V.heap.size := ⟨_, rfl, rfl⟩
    rw [← hV, hz]
    have bV : Below w.heap.size w V := by rw [hV]; exact ⟨rfl, rfl, rfl, Nat.le_refl _, fun _ _ => rfl⟩
    have HB := hide bV
    clear hV hz bV
    go_wp2
    refine bodyPost_ret (v := .agg #[.string R.text, .int .i64 R.br, .int .i64 R.bn, .int .i64 (R.ch 0), .int .i64 (R.ch 1), .int .i64 (R.ch 2), .int .i64 (R.ch 3), .int .i64 (R.ch 4), .int .i64 (R.ch 5), .int .i64 (kn 0), .int .i64 (kn 1), .int .i64 (kn 2), .int .i64 (kn 3), .int .i64 (kn 4), .int .i64 (kn 5)]) (by simp [results, Tryz.results48, go_sem]) rfl ?_
    refine ⟨?_, (HB.out.alloc HB.out.size _).alloc (Nat.le_trans HB.out.size (by simp)) _⟩
    rw [HK.out]
    rfl

end Go.Proofs.YtaelaldmibgibaaGreat
