/- The program's reader of times. The program's sum, its last line, and Unseal. -/
import Derived.Test.YtaelaldmibgibaaGreatDoorRows
import Derived.WalkKit
import Derived.WalkSpells
import Derived.WalkLawsBesides
import Derived.Deep.AppendLies
import Derived.Deep.MidRow
import Derived.Deep.DrawnRows
import Derived.BigQuiet
import Derived.Deep.QuietTactic
import Derived.Deep.RegionWith
import Derived.Deep.RegionHeld3
import Derived.ChangeKeysEq
import Derived.Deep.RegionLaw
import Derived.Lib.ItoaNum
import Derived.Lib.AtoiAll
import Derived.Lib.Strings
import Derived.Test.YtaelaldmibgibaaGreatDoorT02
import Derived.Lib.Split
import Derived.Test.YtaelaldmibgibaaGreatDoorT03
import Derived.Test.YtaelaldmibgibaaGreatDoorT04
import Derived.Test.YtaelaldmibgibaaGreatDoorT05
import Derived.Test.YtaelaldmibgibaaGreatDoorT07
import Derived.Test.YtaelaldmibgibaaGreatDoorT11
import Derived.Test.YtaelaldmibgibaaGreatDoorT12
import Derived.Test.YtaelaldmibgibaaGreatDoorT13
import Derived.Test.YtaelaldmibgibaaGreatDoorT14

set_option linter.unusedVariables false
set_option linter.unusedSimpArgs false
set_option linter.unusedSectionVars false
set_option maxHeartbeats 400000

namespace Go.Proofs.YtaelaldmibgibaaGreatDoor
open Go.RowKit Go.Lib
def lfn (l : List Nat) : Nat → Int := fun j => (l.getD j 0 : Nat)
attribute [local go_sem ↓] ynk ldTime
attribute [local go_sem] yjd run_ldTime
end Go.Proofs.YtaelaldmibgibaaGreatDoor

namespace Go.Proofs.YtaelaldmibgibaaGreatDoor
open Go.RowKit Go.Lib
theorem sum_any (s : ByteArray) (hs : s.size ≤ 1000000000000) (w : World) :
  Calls Tryz.prog 117 #[.string s] w fun e w' => e = .returned (.int .i64 (ybw s s.size)) ∧ ∃ q, w' = w.drewN q := by
 go_enter Tryz.func117, Tryz.ntmps117
 go_wp2
 go_loopw [3, 8] (fun v i wr => ∃ k q : Nat, k ≤ s.size ∧ i = .int .i64 k ∧ v = .int .i64 (ybw s k) ∧ wr = w.drewN q) (fun _ i _ => s.size - (Go.RowKit.intOf i).toNat)
 case atStart => exact ⟨0, 0, by omega, rfl, rfl, rfl⟩
 case round =>
  obtain ⟨k, q, hk, rfl, rfl, rfl⟩ := hrel
  have hlt := yrm s k
  by_cases hx : k < s.size
  ·have e : s.data.getD k 0 = s[k] := (Array.getElem_eq_getD (h := hx) 0).symm
   have ST : Hid (ybw s (k + 1) = (ybw s k + (k + 1) * s[k].toNat) % 1000003) := by unfold Hid; rw [ybw, e]
   have hb : s[k].toNat < 256 := s[k].toNat_lt
   clear e
   generalize hS : ybw s k = S at *
   generalize hB : s[k].toNat = B at *
   have hP : (k + 1) % 1000003 < 1000003 := Nat.mod_lt _ (by omega)
   have eP : ((k : Int) + 1).tmod 1000003 = (((k + 1) % 1000003 : Nat) : Int) := by
    rw [Int.tmod_eq_emod_of_nonneg (by omega)]
    simp
   have HM : Hid ((S + (k + 1) % 1000003 * B) % 1000003 = (S + (k + 1) * B) % 1000003) := by
    unfold Hid
    rw [Nat.add_mod, Nat.mod_mul_mod, ← Nat.add_mod]
   generalize (k + 1) % 1000003 = P at *
   have hm : P * B ≤ 1000003 * 255 := Nat.mul_le_mul (by omega) (by omega)
   have m1 : (0 : Int) ≤ (P : Int) * (B : Int) := Int.mul_nonneg (by omega) (by omega)
   have m2 : (P : Int) * (B : Int) ≤ 255000765 := by
    have : ((P * B : Nat) : Int) ≤ ((1000003 * 255 : Nat) : Int) := Int.ofNat_le.2 hm
    rw [Int.natCast_mul] at this
    simpa using this
   have val : (wrap64 ((S : Int) + wrap64 ((P : Int) * wrap64 (B : Int)))).tmod 1000003 = (((S + P * B) % 1000003 : Nat) : Int) := by
    rw [ykr (B : Int) (by omega), ykr ((P : Int) * (B : Int)) (by omega), ykr _ (by omega), Int.tmod_eq_emod_of_nonneg (by omega)]
    simp
   have HB := yac hB
   have HS := yac hS
   clear hB hS
   go_wp2
   go_roundw
   case rel => exact ⟨k + 1, _, by omega, by go_num, by rw [HB.out, ST.out, ← HM.out, ← val], rfl⟩
   case measure => simp [Go.RowKit.intOf]; omega
  ·have e : k = s.size := by omega
   subst e
   go_wp2
   go_ret
   exact ⟨rfl, _, rfl⟩
theorem ywp (s : ByteArray) (hs : s.size ≤ 1000000000000) (w : World) (hg : yli w) :
  Calls Tryz.prog 68 #[.string s] w fun e w' => e = .returned (.string (yax (yoi (bs s)))) ∧ Below w.heap.size w w' := by
 have hlt := yrm s s.size
 have SU := yac (sum_any s hs w)
 have IT : Hid (∀ q, Calls Tryz.prog 72 #[.int .i64 (ybw s s.size)] (w.drewN q) fun e w' => e = .returned (.string (yax (decDigits (ybw s s.size)))) ∧ Below w.heap.size w w') := fun q => by
  have hb : Below w.heap.size w (w.drewN q) := ⟨rfl, rfl, rfl, Nat.le_refl _, fun _ _ => rfl⟩
  refine (Tryz.strconv_Itoa _ (by omega) (by omega) (w.drewN q) (hg.below hb).tab).mono ?_
  rintro e w' ⟨rfl, k, os, rfl⟩
  refine ⟨?_, below_step hb (ypc _ k os)⟩
  unfold Lib.itoa
  rw [if_neg (by omega), Int.toNat_natCast]
  rfl
 have HL : Hid (yax (yoi (bs s)) = (⟨#[115, 117, 109, 32]⟩ : ByteArray) ++ yax (decDigits (ybw s s.size)) ++ ⟨#[10]⟩) := by
  unfold Hid yoi
  apply yig
  rw [ybe, ybj, ybj, ybe, sumL_bs, List.append_assoc]
  rfl
 have hsz : (yax (decDigits (ybw s s.size))).size ≤ 1000 := by
  rw [← you, ybe]
  have := ydh 6 (ybw s s.size) (Nat.lt_of_lt_of_le hlt (by decide))
  omega
 generalize yax (decDigits (ybw s s.size)) = dd at *
 generalize ybw s s.size = S at *
 clear hg
 go_enter Tryz.func68, Tryz.ntmps68
 go_wp2_with (first
  |(go_at_call 117; refine (SU.out).mono ?_; rintro e w1 ⟨rfl, q, rfl⟩)
  |(go_at_call 72; refine (IT.out q).mono ?_; rintro e w2 ⟨rfl, hb⟩))
 go_ret
 exact ⟨by rw [HL.out]; rfl, hb⟩
end Go.Proofs.YtaelaldmibgibaaGreatDoor
