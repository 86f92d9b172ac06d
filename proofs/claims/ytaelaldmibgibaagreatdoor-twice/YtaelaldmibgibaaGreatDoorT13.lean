/- Records in a text: what the document's reader takes, and that it takes it. A whole text: what the document's reader takes, and that it takes it. A whole text and its sum; a net without memory, and the text of it. -/
import Derived.Test.YtaelaldmibgibaaGreatDoorRows
import Derived.WalkKit
import Derived.WalkSpells
import Derived.WalkLawsBesides
import Derived.Deep.AppendLies
import Derived.Deep.MidRow
import Derived.Deep.DrawnRows
import Derived.BigQuiet
import Derived.Deep.QuietTactic
import Derived.Deep.RegionWith
import Derived.Deep.RegionHeld3
import Derived.Lib.ItoaNum
import Derived.Lib.Strings
import Derived.Test.YtaelaldmibgibaaGreatDoorT03
import Derived.Test.YtaelaldmibgibaaGreatDoorT04
import Derived.Test.YtaelaldmibgibaaGreatDoorT05
import Derived.Test.YtaelaldmibgibaaGreatDoorT11
import Derived.Test.YtaelaldmibgibaaGreatDoorT12

set_option linter.unusedVariables false
set_option linter.unusedSimpArgs false
set_option linter.unusedSectionVars false

namespace Go.Proofs.YtaelaldmibgibaaGreatDoor
open Go.Lib
def bs (p : ByteArray) : Bs := p.data.toList
theorem you (p : ByteArray) : (bs p).length = p.size := by unfold bs; rw [Array.length_toList]; rfl
theorem yig {p q : ByteArray} (h : bs p = bs q) : p = q := by
 obtain ⟨⟨l⟩⟩ := p
 obtain ⟨⟨m⟩⟩ := q
 have : l = m := h
 rw [this]
abbrev Drs := List (ByteArray × DS)
def drsT (D : Drs) : Bs := (D.map (fun r => bs r.1 ++ r.2.T)).flatten
structure okDrs (n : Nat) (D : Drs) : Prop where
 paths : ∀ r ∈ D, ycw r.1 = true
 oks : ∀ r ∈ D, r.2.ok n
 rise : D.Pairwise (fun x y => slt x.1 y.1 = true)
def yjv : ByteArray := ⟨#[114, 101, 112, 108, 105, 99, 97, 32]⟩
def yib : ByteArray := ⟨#[114, 101, 117, 110, 105, 111, 110, 32]⟩
def sumW : ByteArray := ⟨#[115, 117, 109, 32]⟩
structure DR where
 com : List Nat
 recs : Drs
def DR.T (d : DR) : Bs := bs yjv ++ (ycp d.com ++ (10 :: drsT d.recs))
structure DR.ok (n : Nat) (d : DR) : Prop where
 cl : d.com.length = n
 cb : ∀ v ∈ d.com, v ≤ 1000000000
 recs : okDrs n d.recs
def yvy (l : List DR) : Bs := (l.map DR.T).flatten
def yax (l : Bs) : ByteArray := ⟨l.toArray⟩
theorem ybe (l : Bs) : bs (yax l) = l := by simp [bs, yax]
theorem ofBs_bs (s : ByteArray) : yax (bs s) = s := yig (ybe _)
theorem ycf (l : Bs) : (yax l).size = l.length := by rw [← you, ybe]
def sumL (l : Bs) : Nat := ybw (yax l) l.length
theorem sumL_bs (s : ByteArray) : sumL (bs s) = ybw s s.size := by unfold sumL; rw [ofBs_bs, you]
theorem ybj (a b : ByteArray) : bs (a ++ b) = bs a ++ bs b := by simp [bs]
def ynz (m : List DR) : Bs := bs yib ++ (decDigits m.length ++ (10 :: yvy m))
def yoi (l : Bs) : Bs := bs sumW ++ (decDigits (sumL l) ++ [10])
def yvo (m : List DR) : Bs := ynz m ++ yoi (ynz m)
structure okNet (m : List DR) : Prop where
 n1 : 1 ≤ m.length
 n6 : m.length ≤ 6
 oks : ∀ d ∈ m, d.ok m.length
end Go.Proofs.YtaelaldmibgibaaGreatDoor
