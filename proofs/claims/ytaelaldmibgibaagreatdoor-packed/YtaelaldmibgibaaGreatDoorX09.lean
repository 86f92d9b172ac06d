/- Records in a text: what the document's reader takes, and tha. -/
import Derived.Test.YtaelaldmibgibaaGreatDoorX05
import Derived.Test.YtaelaldmibgibaaGreatDoorX08

set_option linter.all false

namespace Go.Proofs.K
open Go.Lib
def bs (p : ByteArray) : Bs := p.data.toList
theorem yax (p : ByteArray) : (bs p).length = p.size := by unfold bs; rw [Array.length_toList]; rfl
theorem ygw {p q : ByteArray} (h : bs p = bs q) : p = q := by
 obtain ⟨⟨l⟩⟩ := p
 obtain ⟨⟨m⟩⟩ := q
 have : l = m := h
 rw [this]
theorem ypr (c : UInt8) (h : ybg c = true) : c.toNat ≠ 32 ∧ c.toNat ≠ 10 := by
 constructor
 ·intro e
  have : c = 32 := UInt8.toNat_inj.1 e
  subst this
  cases h
 ·intro e
  have : c = 10 := UInt8.toNat_inj.1 e
  subst this
  cases h
def yeb (t : Bs) : Nat := (t.takeWhile (fun c => c != 10)).count 32
def noNl (t : Bs) : Prop := ∀ c ∈ t, (c != 10) = true
theorem yli (t R : Bs) (h : noNl t) : yeb (t ++ R) = t.count 32 + yeb R := by
 unfold yeb
 rw [List.takeWhile_append_of_pos h, List.count_append]
theorem blanks_nl (R : Bs) : yeb (10 :: R) = 0 := by simp [yeb]
theorem yia {t u : Bs} (h : noNl t) (g : noNl u) : noNl (t ++ u) := fun c hc => by
 rcases List.mem_append.1 hc with q | q
 ·exact h c q
 ·exact g c q
theorem isD_ne (c : UInt8) (h : isD c = true) : (c != 10) = true ∧ c ≠ 32 ∧ c ≠ 44 ∧ c ≠ 58 := by
 unfold isD at h
 simp only [decide_eq_true_eq] at h
 refine ⟨?_, ?_, ?_, ?_⟩
 ·rw [bne_iff_ne]; rintro rfl; exact absurd h (by decide)
 ·rintro rfl; exact absurd h (by decide)
 ·rintro rfl; exact absurd h (by decide)
 ·rintro rfl; exact absurd h (by decide)
theorem ymf (l : List Nat) (c : UInt8) (h : c ∈ yba l) : c = 44 ∨ isD c = true := by
 have key : ∀ (L : List Bs), (∀ t ∈ L, ∀ c ∈ t, isD c = true) → ∀ c ∈ ybu 44 L, c = 44 ∨ isD c = true := by
  intro L hL c hc
  cases L with
  |nil => simp [ybu] at hc
  |cons x L =>
   unfold ybu at hc
   rcases List.mem_append.1 hc with q | q
   ·exact .inr (hL x (by simp) c q)
   ·obtain ⟨t, ht, hct⟩ := List.mem_flatten.1 q
    obtain ⟨y, hy, rfl⟩ := List.mem_map.1 ht
    rcases List.mem_cons.1 hct with rfl | q2
    ·exact .inl rfl
    ·exact .inr (hL y (by simp [hy]) c q2)
 refine key (l.map decDigits) ?_ c h
 intro t ht
 obtain ⟨v, _, rfl⟩ := List.mem_map.1 ht
 exact ymp v
theorem yqm (l : List Nat) : noNl (yba l) ∧ (yba l).count 32 = 0 := by
 constructor
 ·intro c hc
  rcases ymf l c hc with rfl | q
  ·rfl
  ·exact (isD_ne c q).1
 ·rw [List.count_eq_zero]
  intro hc
  rcases ymf l 32 hc with q | q
  ·cases q
  ·cases q
theorem yso (p : ByteArray) (h : ybm p = true) : noNl (bs p) ∧ (bs p).count 32 = 0 := by
 unfold ybm at h
 simp only [Bool.and_eq_true, List.all_eq_true] at h
 constructor
 ·intro c hc
  have := ypr c (h.2 c hc)
  rw [bne_iff_ne]
  rintro rfl
  exact this.2 rfl
 ·rw [List.count_eq_zero]
  intro hc
  exact (ypr 32 (h.2 32 hc)).1 rfl
theorem line_rec (p : ByteArray) (d : DS) (R : Bs) (hp : ybm p = true) : 2 ≤ yeb (bs p ++ (d.T ++ R)) := by
 obtain ⟨h1, h2⟩ := yso p hp
 obtain ⟨h3, h4⟩ := yqm d.known
 have e : bs p ++ (d.T ++ R) = (bs p ++ ([32] ++ (yba d.known ++ [32]))) ++ ((if d.there = true then d.tail else [45, 10]) ++ R) := by simp [DS.T]
 have hn : noNl (bs p ++ ([32] ++ (yba d.known ++ [32]))) := yia h1 (yia (fun c hc => by simp at hc; subst hc; rfl) (yia h3 (fun c hc => by simp at hc; subst hc; rfl)))
 rw [e, yli _ _ hn]
 simp only [List.count_append]
 have : List.count (32 : UInt8) [32] = 1 := rfl
 omega
abbrev Drs := List (ByteArray × DS)
def ylj (D : Drs) : Bs := (D.map (fun r => bs r.1 ++ r.2.T)).flatten
structure okDrs (n : Nat) (D : Drs) : Prop where
 paths : ∀ r ∈ D, ybm r.1 = true
 oks : ∀ r ∈ D, r.2.ok n
 rise : D.Pairwise (fun x y => slt x.1 y.1 = true)
theorem ylk (D : Drs) (p : ByteArray) (d : DS) : ylj ((p, d) :: D) = bs p ++ (d.T ++ ylj D) := by simp [ylj]
def ydh : ByteArray := ⟨#[114, 101, 112, 108, 105, 99, 97, 32]⟩
def yao : ByteArray := ⟨#[114, 101, 117, 110, 105, 111, 110, 32]⟩
def sumW : ByteArray := ⟨#[115, 117, 109, 32]⟩
structure DR where
 com : List Nat
 recs : Drs
def DR.T (d : DR) : Bs := bs ydh ++ (yba d.com ++ (10 :: ylj d.recs))
structure DR.ok (n : Nat) (d : DR) : Prop where
 cl : d.com.length = n
 cb : ∀ v ∈ d.com, v ≤ 1000000000
 recs : okDrs n d.recs
def yep (l : List DR) : Bs := (l.map DR.T).flatten
theorem okDrs_nil (n : Nat) : okDrs n [] := ⟨by simp, by simp, List.Pairwise.nil⟩
theorem ykb (d : DR) (m : List DR) : yep (d :: m) = d.T ++ yep m := by simp [yep]
theorem blanks_rep (d : DR) (R : Bs) : yeb (d.T ++ R) < 2 := by
 obtain ⟨h3, h4⟩ := yqm d.com
 have e : d.T ++ R = (bs ydh ++ yba d.com) ++ (10 :: (ylj d.recs ++ R)) := by simp [DR.T]
 have hn : noNl (bs ydh) := by unfold noNl; decide
 rw [e, yli _ _ (yia hn h3), blanks_nl, List.count_append, h4]
 have : (bs ydh).count 32 = 1 := by decide
 omega
def yaf (l : Bs) : ByteArray := ⟨l.toArray⟩
theorem yah (l : Bs) : bs (yaf l) = l := by simp [bs, yaf]
theorem ofBs_bs (s : ByteArray) : yaf (bs s) = s := ygw (yah _)
theorem yal (l : Bs) : (yaf l).size = l.length := by rw [← yax, yah]
def sumL (l : Bs) : Nat := ycg (yaf l) l.length
theorem sumL_bs (s : ByteArray) : sumL (bs s) = ycg s s.size := by unfold sumL; rw [ofBs_bs, yax]
theorem ybv (a b : ByteArray) : bs (a ++ b) = bs a ++ bs b := by simp [bs]
def ydz (m : List DR) : Bs := bs yao ++ (decDigits m.length ++ (10 :: yep m))
def yfa (l : Bs) : Bs := bs sumW ++ (decDigits (sumL l) ++ [10])
def yga (m : List DR) : Bs := ydz m ++ yfa (ydz m)
structure okNet (m : List DR) : Prop where
 n1 : 1 ≤ m.length
 n6 : m.length ≤ 6
 oks : ∀ d ∈ m, d.ok m.length
open Go.RowKit
section
variable {w wr w' : World} {b : Nat} {s : ByteArray} {x y : Nat × Bool} {ρ : Nat → Nat × Nat} {n q : Nat} {ps : List ByteArray} {rs : List SpR} {lv ov : Value} {cs : List SP}
end
section
variable {w W w1 : World} {b : Nat} {s : ByteArray} {x : Nat × Bool} {ρ : Nat → Nat × Nat} {n q : Nat} {ps : List ByteArray} {rs : List SpR} {lv ov : Value} {cs : List SP} {c : SP} {r : SpR} {xb : Nat}
end
end Go.Proofs.K

namespace Go.Proofs.K
open Go.RowKit
structure RR where
 lv : Value
 ov : Value
 ps : List ByteArray
 cs : List SP
 rs : List SpR
section
variable {base : Nat} {w w' : World} {σ : Nat → Nat × Nat} {n : Nat} {R : List RR} {nv xv : Value} {ns xs : List Value}
end
end Go.Proofs.K
