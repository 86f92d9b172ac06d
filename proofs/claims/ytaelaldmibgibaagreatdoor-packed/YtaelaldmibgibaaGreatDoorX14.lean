/- The program's List of a replica: the map's keys, sorted. -/
import Derived.Sort.OwnSorted
import Derived.Test.YtaelaldmibgibaaGreatDoorX13

set_option linter.all false
set_option maxHeartbeats 1000000
set_option maxRecDepth 100000

namespace Go.Proofs.K
open Go.RowKit Go.Maps Go.Sort
variable {E : yau} {left : Lit → Bool}
theorem less_iff (x y : List UInt8) : Op.bytesLess x y = true ↔ x < y := by
 induction x generalizing y with
 |nil =>
  cases y with
  |nil => simp [Op.bytesLess]
  |cons b y => simp [Op.bytesLess]
 |cons a x ih =>
  cases y with
  |nil => simp [Op.bytesLess]
  |cons b y =>
   rw [List.cons_lt_cons_iff, ← ih]
   simp [Op.bytesLess]
theorem yjh (x y : List UInt8) : decide (x ≤ y) = !Op.bytesLess y x := by
 cases e : Op.bytesLess y x with
 |true => simp only [Bool.not_true, decide_eq_false_iff_not]; exact fun h => h ((less_iff y x).1 e)
 |false => simp only [Bool.not_false, decide_eq_true_eq]; exact fun h => by rw [(less_iff y x).2 h] at e; cases e
theorem ywn (T : List (List UInt8)) : ∀ (ts : List (List UInt8)), T.Pairwise (fun a b => Op.bytesLess a b = true) → ts.Pairwise (fun a b => Op.bytesLess b a = false) → ts.Perm T → ts = T := by
 induction T with
 |nil => intro ts _ _ hp; exact List.Perm.eq_nil hp
 |cons a T ih =>
  intro ts hT hts hp
  cases ts with
  |nil => exact absurd hp.symm.eq_nil (by simp)
  |cons b ts =>
   obtain ⟨h1, h2⟩ := List.pairwise_cons.1 hT
   obtain ⟨h3, h4⟩ := List.pairwise_cons.1 hts
   have e : b = a := by
    have hb : b ∈ a :: T := hp.subset (by simp)
    have ha : a ∈ b :: ts := hp.symm.subset (by simp)
    rcases List.mem_cons.1 hb with hb | hb
    ·exact hb
    ·rcases List.mem_cons.1 ha with ha | ha
     ·exact ha.symm
     ·have := h1 b hb
      rw [h3 a ha] at this
      cases this
   subst e
   rw [ih ts h2 h4 ((List.perm_cons b).1 hp)]
theorem sorted_eq (ss T : List (List UInt8)) (hT : T.Pairwise (fun a b => Op.bytesLess a b = true)) (hp : ss.Perm T) : (ss.mergeSort fun x y => decide (x ≤ y)) = T := by
 refine ywn T _ hT ?_ ((List.mergeSort_perm _ _).trans hp)
 have := List.pairwise_mergeSort (le := fun x y : List UInt8 => decide (x ≤ y)) ?_ ?_ ss
 ·refine this.imp ?_
  intro a b h
  rw [yjh] at h
  simpa using h
 ·intro a b c h h'
  rw [yjh] at h h' ⊢
  cases e : Op.bytesLess c a with
  |false => rfl
  |true =>
   simp at h h'
   have hab : Op.bytesLess a b = true ∨ a = b := by
    cases e2 : Op.bytesLess a b with
    |true => exact .inl rfl
    |false => exact .inr (ywi _ _ e2 h)
   rcases hab with hab | rfl
   ·rw [yjt _ _ _ e hab] at h'; cases h'
   ·rw [e] at h'; cases h'
 ·intro a b
  rw [yjh, yjh]
  cases e : Op.bytesLess b a with
  |false => rfl
  |true =>
   cases e2 : Op.bytesLess a b with
   |false => rfl
   |true =>
    have := yjt _ _ _ e e2
    rw [yft] at this
    cases this
def lst (x : ByteArray) : List UInt8 := x.data.toList
theorem svs_lst (l : List ByteArray) : svs l = (l.map lst).map encStr := by
 unfold svs
 rw [List.map_map]
 apply List.map_congr_left
 intro x _
 rfl
theorem ysu (h : yav E) : ((E.map (·.1)).map lst).Pairwise (fun a b => Op.bytesLess a b = true) := by
 rw [List.map_map, List.pairwise_map]
 refine h.imp ?_
 intro a b h
 unfold slt at h
 rw [ByteArray.toList_eq, ByteArray.toList_eq] at h
 exact h
def come (left : Lit → Bool) (E : yau) : List ByteArray := (E.filter (fun x => !left (key x.1))).map (·.1)
theorem come_start (E : yau) : come (Maps.has (ycb E)) E = [] := by
 unfold come
 rw [yhu _ _ (fun x hx => by rw [yjc, yln hx]; rfl)]
 rfl
theorem come_end (h : ∀ kl, left kl = false) (E : yau) : come left E = E.map (·.1) := by
 unfold come
 rw [ymt _ _ (fun x _ => by rw [h]; rfl)]
theorem come_step (hE : yav E) {x : ByteArray} {R : Rec} (hx : (x, R) ∈ E) (hl : left (key x) = true) : (come (fun z => left z && !z.sameKey (key x)) E).Perm (x :: come left E) := by
 unfold come
 simp only [yfi]
 induction E with
 |nil => simp at hx
 |cons y E ih =>
  obtain ⟨h1, h2⟩ := List.pairwise_cons.1 hE
  rcases List.mem_cons.1 hx with rfl | hx
  ·have e : E.filter (fun y => !(left (key y.1) && !seq y.1 x)) = E.filter (fun y => !left (key y.1)) := by
    apply List.filter_congr
    intro z hz
    rw [yew (fun e => yjq (h1 z hz) e.symm)]
    simp
   have e2 : seq x x = true := (ydm _ _).2 rfl
   rw [List.filter_cons, List.filter_cons, e]
   simp only [hl, e2, Bool.not_true, Bool.and_false, Bool.not_false, if_true]
   exact List.Perm.refl _
  ·have ih := ih h2 hx
   have e2 : seq y.1 x = false := yew (yjq (h1 _ hx))
   rw [List.filter_cons, List.filter_cons]
   cases e : left (key y.1) with
   |true => simpa [e2] using ih
   |false =>
    simp only [e2, Bool.false_and, Bool.not_false, if_true, List.map_cons]
    exact (List.Perm.cons _ ih).trans (List.Perm.swap _ _ _)
theorem come_le (left : Lit → Bool) (E : yau) : (come left E).length ≤ E.length := by
 unfold come
 rw [List.length_map]
 exact List.length_filter_le _ _
theorem ranges_more {w1 w2 : World} {o : Obj} {b r n cnt : Nat} {D : DataW Unit} (h : w1.ranges Tryz.prog 9 yar b r n D left cnt) (hb : Below (w1.alloc o).heap.size (w1.alloc o) w2) : w2.ranges Tryz.prog 9 yar b r n D left cnt :=
 ykz h ((hb.block _ (by have := h.owns.lt; simp; omega)).trans (Below.heap_alloc _ _ _ h.owns.lt)) ((hb.block _ (by have := h.lt; simp; omega)).trans (Below.heap_alloc _ _ _ h.lt))
end Go.Proofs.K

namespace Go.Proofs.K
open Go.RowKit Go.Maps
attribute [local go_sem ↓] yvt
attribute [local go_sem] yih
structure PRep (w : World) (rb s mb : Nat) (c : Int) (E : yau) : Prop where
 rep : ybs w rb s (tf s c) mb
 own : w.ownsMap Tryz.prog 9 yar mb E.length (ycb E)
 ris : yav E
 bn : ∀ x ∈ E, 0 < x.2.bn
 kn : ∀ x ∈ E, ∀ j, j < 6 → j ≠ s → x.2.kn j = 0
 len : E.length ≤ 20
 c0 : 0 ≤ c
theorem PRep.keep {w w' : World} {rb s mb : Nat} {c : Int} {E : yau} (h : PRep w rb s mb c E) (h1 : w'.heap[rb]? = w.heap[rb]?) (h2 : w'.heap[mb]? = w.heap[mb]?) : PRep w' rb s mb c E :=
 ⟨h.rep.keep h1, ybf h.own h2, h.ris, h.bn, h.kn, h.len, h.c0⟩
theorem tf_other (s : Nat) (c : Int) (j : Nat) (hj : j ≠ s) : tf s c j = 0 := by
 unfold tf one
 rw [List.getD_eq_getElem?_getD, List.getElem?_set_ne (fun e => hj e.symm)]
 by_cases h : j < 6
 ·rw [List.getElem?_replicate, if_pos h]; rfl
 ·rw [List.getElem?_replicate, if_neg h]; rfl
theorem yyr {ops : Array Oper} {o : Oper} {a : Act} {w : World} {K : Act → World → Prop} {Q : Exit → Act → World → Prop} {G : Prop}
  (hg : o.guard = none) (m : Operand) (t : TypeId) (hop : o.op = Op.call { callee := Callee.builtin Builtin.len, args := #[m], argTypes := #[t] })
  (k e : TypeId) (ht : Tryz.prog.underlying t = some (.map k e)) (R : Value → Option (DataW Unit × List MemPlace)) (b n : Nat) (D : DataW Unit) (hm : a.eval m = .map (some b)) (hown : w.ownsMap Tryz.prog k R b n D) (z : Nat) (hz : Maps.size D = z)
  (hK : K (a.put o.dst (.int .i64 z)) w) : if Region.wanted o (yielded ops a.tmps) = true then Oper.wp Tryz.prog o a w K Q else G := by
 have hw : Region.wanted o (yielded ops a.tmps) = true := by simp [Region.wanted, hg]
 rw [if_pos hw]
 subst hz
 unfold Oper.wp
 simp [execOp, hop, resolve, invoke, builtin, hm, hown.len ht o.type, Result.andThen]
 exact hK
end Go.Proofs.K

namespace Go.Proofs.K
open Go.RowKit Go.Maps
theorem yap.lt {w b R} (h : yap w b R) : b < w.heap.size := (Array.getElem?_eq_some_iff.1 h.blk).1
theorem yap.keep {w w' b R} (h : yap w b R) (hk : w'.heap[b]? = w.heap[b]?) : yap w' b R := ⟨by rw [hk]; exact h.blk⟩
theorem yap.more {w w' b R} (h : yap w b R) (hb : Below w.heap.size w w') : yap w' b R := h.keep (hb.block _ h.lt)
theorem yap.file {w b R} (h : yap w b R) : ylg w b R.text R.br R.bn R.ch := by
 obtain ⟨k0, k1, k2, k3, k4, k5, k6, k7, k8, _⟩ := h.cells
 exact ⟨k0, k1, k2, k3, k4, k5, k6, k7, k8, h.fz, h.lt⟩
theorem yap.at9 {w b R} (h : yap w b R) : At9 w b R.kn := by
 obtain ⟨_, _, _, _, _, _, _, _, _, k9, k10, k11, k12, k13, k14⟩ := h.cells
 exact ⟨k9, k10, k11, k12, k13, k14, h.fz, h.lt⟩
theorem yap.setText {w b R} (h : yap w b R) (t : ByteArray) : yap (w.setCell ⟨b, 0, none⟩ (.string t)) b ⟨t, R.br, R.bn, R.ch, R.kn⟩ := by
 constructor
 have h1 := heap_setCell_same w b 0 _ _ (.string t) h.blk
 simpa using h1
theorem yap.setBr {w b R} (h : yap w b R) (x : Int) : yap (w.setCell ⟨b, 1, none⟩ (.int .i64 x)) b ⟨R.text, x, R.bn, R.ch, R.kn⟩ := by
 constructor
 have h1 := heap_setCell_same w b 1 _ _ (.int .i64 x) h.blk
 simpa using h1
theorem yap.setBn {w b R} (h : yap w b R) (x : Int) : yap (w.setCell ⟨b, 2, none⟩ (.int .i64 x)) b ⟨R.text, R.br, x, R.ch, R.kn⟩ := by
 constructor
 have h1 := heap_setCell_same w b 2 _ _ (.int .i64 x) h.blk
 simpa using h1
theorem yap.setCh {w b R} (h : yap w b R) (t : Nat → Int) : yap (w.setCells b 3 [.int .i64 (t 0), .int .i64 (t 1), .int .i64 (t 2), .int .i64 (t 3), .int .i64 (t 4), .int .i64 (t 5)]) b ⟨R.text, R.br, R.bn, t, R.kn⟩ := by
 constructor
 simp only [World.setCells]
 have h1 := heap_setCell_same w b 3 _ _ (.int .i64 (t 0)) h.blk
 have h2 := heap_setCell_same _ b 4 _ _ (.int .i64 (t 1)) h1
 have h3 := heap_setCell_same _ b 5 _ _ (.int .i64 (t 2)) h2
 have h4 := heap_setCell_same _ b 6 _ _ (.int .i64 (t 3)) h3
 have h5 := heap_setCell_same _ b 7 _ _ (.int .i64 (t 4)) h4
 have h6 := heap_setCell_same _ b 8 _ _ (.int .i64 (t 5)) h5
 simpa using h6
theorem yap.setKnAll {w b R} (h : yap w b R) (t : Nat → Int) : yap (w.setCells b 9 [.int .i64 (t 0), .int .i64 (t 1), .int .i64 (t 2), .int .i64 (t 3), .int .i64 (t 4), .int .i64 (t 5)]) b ⟨R.text, R.br, R.bn, R.ch, t⟩ := by
 constructor
 simp only [World.setCells]
 have h1 := heap_setCell_same w b 9 _ _ (.int .i64 (t 0)) h.blk
 have h2 := heap_setCell_same _ b 10 _ _ (.int .i64 (t 1)) h1
 have h3 := heap_setCell_same _ b 11 _ _ (.int .i64 (t 2)) h2
 have h4 := heap_setCell_same _ b 12 _ _ (.int .i64 (t 3)) h3
 have h5 := heap_setCell_same _ b 13 _ _ (.int .i64 (t 4)) h4
 have h6 := heap_setCell_same _ b 14 _ _ (.int .i64 (t 5)) h5
 simpa using h6
theorem yap.cleared {w b R} (h : yap w b R) : yap (w.setCells b 0 [.string ⟨#[]⟩, .int .i64 0, .int .i64 0, .int .i64 0, .int .i64 0, .int .i64 0, .int .i64 0, .int .i64 0, .int .i64 0]) b ⟨⟨#[]⟩, 0, 0, fun _ => 0, R.kn⟩ := by
 constructor
 simp only [World.setCells]
 have h1 := heap_setCell_same w b 0 _ _ (.string ⟨#[]⟩) h.blk
 have h2 := heap_setCell_same _ b 1 _ _ (.int .i64 0) h1
 have h3 := heap_setCell_same _ b 2 _ _ (.int .i64 0) h2
 have h4 := heap_setCell_same _ b 3 _ _ (.int .i64 0) h3
 have h5 := heap_setCell_same _ b 4 _ _ (.int .i64 0) h4
 have h6 := heap_setCell_same _ b 5 _ _ (.int .i64 0) h5
 have h7 := heap_setCell_same _ b 6 _ _ (.int .i64 0) h6
 have h8 := heap_setCell_same _ b 7 _ _ (.int .i64 0) h7
 have h9 := heap_setCell_same _ b 8 _ _ (.int .i64 0) h8
 simpa using h9
def yea (s : Nat) (x : Int) (t : ByteArray) (R : Rec) : Rec := ⟨t, if 0 < R.bn then R.br else s, if 0 < R.bn then R.bn else x, yac R.ch (tf s x), R.kn⟩
theorem write_rec (b s : Nat) (x : Int) (t : ByteArray) (R : Rec) (hs : s < 6) (w : World) (h : yap w b R) (hbn : 0 ≤ R.bn) :
  Calls Tryz.prog 108 #[.pointer (some ⟨b, 0, none⟩), .string t, .agg #[.int .i64 s, .int .i64 x]] w fun e w' => e = .returned (.tuple #[]) ∧ yap w' b (yea s x t R) ∧ Fr (fun k => k = b) w w' := by
 by_cases h0 : 0 < R.bn
 ·refine (fwrite_old b R.text t R.br R.bn R.ch s x hs w h.file h0).mono ?_
  rintro e w' ⟨rfl, w1, w3, hb1, hb3, rfl⟩
  refine ⟨rfl, ?_, ?_⟩
  ·have r1 := h.more hb1
   have r2 := r1.setText t
   have r3 := r2.keep (hb3.block b r1.lt)
   have r4 := r3.setCh (yac R.ch (tf s x))
   unfold yea
   rw [if_pos h0, if_pos h0]
   exact r4
  ·have f1 : Fr (fun k => k = b) w w1 := Fr.of_below hb1
   have f2 := f1.setCell (p := ⟨b, 0, none⟩) (.inl rfl) (.string t)
   have f3 : Fr (fun k => k = b) w w3 := f2.trans' (S := fun k => k = b) (T := fun _ => False) (b := w1.setCell ⟨b, 0, none⟩ (.string t)) ⟨hb3.os, hb3.tape, hb3.output, hb3.size, fun k hk _ => hb3.block k (by simpa [World.setCell] using hk)⟩ (fun _ _ q => q.elim)
   exact f3.setCells b 3 _ (.inl rfl)
 ·have hz : R.bn = 0 := by omega
  refine (fwrite_new b R.text t R.br R.bn R.ch s x hs w h.file hz).mono ?_
  rintro e w' ⟨rfl, w1, w3, hb1, hb3, rfl⟩
  refine ⟨rfl, ?_, ?_⟩
  ·have r1 := h.more hb1
   have r2 := ((r1.setBr s).setBn x).setText t
   have r3 := r2.keep (hb3.block b r1.lt)
   have r4 := r3.setCh (yac R.ch (tf s x))
   unfold yea
   rw [if_neg h0, if_neg h0]
   exact r4
  ·have f1 : Fr (fun k => k = b) w w1 := Fr.of_below hb1
   have f2 := ((f1.setCell (p := ⟨b, 1, none⟩) (.inl rfl) (.int .i64 s)).setCell (p := ⟨b, 2, none⟩) (.inl rfl) (.int .i64 x)).setCell (p := ⟨b, 0, none⟩) (.inl rfl) (.string t)
   have f3 : Fr (fun k => k = b) w w3 := f2.trans' (S := fun k => k = b) (T := fun _ => False) ⟨hb3.os, hb3.tape, hb3.output, by simpa [World.setCell] using hb3.size, fun k hk _ => hb3.block k (by simpa [World.setCell] using hk)⟩ (fun _ _ q => q.elim)
   exact f3.setCells b 3 _ (.inl rfl)
theorem hear_rec (b g cp : Nat) (u : Nat → Int) (R : Rec) (w : World) (h : yap w b R) (hg : g < w.heap.size) (hu : ∀ j, j < 6 → w.cell? ⟨g, j, none⟩ = some (.int .i64 (u j))) :
  Calls Tryz.prog 110 #[.pointer (some ⟨b, 9, none⟩), .slice (some ⟨g, 0, none⟩) 1 cp] w fun e w' => e = .returned (.tuple #[]) ∧ yap w' b ⟨R.text, R.br, R.bn, R.ch, yac R.kn u⟩ ∧ Fr (fun k => k = b) w w' := by
 refine (hear_any b g cp R.kn u w h.at9 hg hu).mono ?_
 rintro e w' ⟨rfl, w1, hb1, rfl⟩
 exact ⟨rfl, (h.more hb1).setKnAll _, (Fr.of_below hb1).setCells b 9 _ (.inl rfl)⟩
theorem yss (b : Nat) (R : Rec) (w : World) (h : yap w b R) :
  Calls Tryz.prog 114 #[.pointer (some ⟨b, 0, none⟩)] w fun e w' => e = .returned (.tuple #[]) ∧ yap w' b ⟨⟨#[]⟩, 0, 0, fun _ => 0, R.kn⟩ ∧ Fr (fun k => k = b) w w' := by
 obtain ⟨k0, k1, k2, k3, k4, k5, k6, k7, k8, _⟩ := h.cells
 refine (fremove_any b w ?_).mono ?_
 ·intro j hj
  refine ⟨?_, h.fz _⟩
  match j, hj with
  |0, _ => simp [k0]
  |1, _ => simp [k1]
  |2, _ => simp [k2]
  |3, _ => simp [k3]
  |4, _ => simp [k4]
  |5, _ => simp [k5]
  |6, _ => simp [k6]
  |7, _ => simp [k7]
  |8, _ => simp [k8]
 ·rintro e w' ⟨rfl, rfl⟩
  exact ⟨rfl, h.cleared, (Fr.refl _ _).setCells b 0 _ (.inl rfl)⟩
structure PN where
 pb : Nat
 rbs : List Nat
 mbs : List Nat
def PN.mem (P : PN) (nb k : Nat) : Prop := k = nb ∨ k = P.pb ∨ k ∈ P.rbs ∨ k ∈ P.mbs
structure PNet (w : World) (nb : Nat) (P : PN) (A : Abs) : Prop where
 net : ymk w nb A.n P.pb P.rbs
 ml : P.mbs.length = A.n
 n1 : 1 ≤ A.n
 rep : ∀ r rb mb, P.rbs[r]? = some rb → P.mbs[r]? = some mb → ∃ E, PRep w rb r mb (A.c r) E ∧ A.F r = filesE E
 nd : (nb :: P.pb :: (P.rbs ++ P.mbs)).Nodup
 lt : ∀ k, P.mem nb k → k < w.heap.size
section
variable {w w' : World} {nb : Nat} {P : PN} {A : Abs}
theorem ymk.keep {n pb : Nat} {rbs : List Nat} (h : ymk w nb n pb rbs) (h1 : w'.heap[nb]? = w.heap[nb]?) (h2 : w'.heap[pb]? = w.heap[pb]?) : ymk w' nb n pb rbs :=
 ⟨by rw [h1]; exact h.blk, h.len, fun r b hr => by rw [World.cell?_of_block (w := w) h2]; exact h.row r b hr, h.n6⟩
theorem yse {l : List Nat} (h : l.Nodup) {i j : Nat} {a b : Nat} (hi : l[i]? = some a) (hj : l[j]? = some b) (hne : i ≠ j) : a ≠ b := by
 obtain ⟨hi', rfl⟩ := List.getElem?_eq_some_iff.1 hi
 obtain ⟨hj', rfl⟩ := List.getElem?_eq_some_iff.1 hj
 intro e
 exact hne ((List.getElem_inj h).1 e)
end
end Go.Proofs.K

namespace Go.Proofs.K
open Go.RowKit Go.Maps
section
variable {w w' : World} {nb : Nat} {P : PN} {A : Abs}
end
attribute [local go_sem ↓] yvt
attribute [local go_sem] yih
end Go.Proofs.K

namespace Go.Proofs.K
open Go.RowKit Go.Maps
variable {w w0 w1 wz : World} {i : Nat} {cw : Value} {mbs rbs : List Nat}
theorem tf_nil (s : Nat) : tf s 0 = fun _ => 0 := by
 funext j
 by_cases hj : j = s
 ·subst hj
  unfold tf one
  by_cases h : j < 6
  ·match j, h with
   |0, _ | 1, _ | 2, _ | 3, _ | 4, _ | 5, _ => rfl
  ·rw [List.set_eq_of_length_le (by simp; omega), List.getD_eq_getElem?_getD, List.getElem?_replicate, if_neg h]; rfl
 ·exact tf_other s 0 j hj
theorem yuz (s : Nat) (hs : s < 6) (w : World) :
  Calls Tryz.prog 48 #[.int .i64 s] w fun e w' => e = .returned (.pointer (some ⟨w.heap.size + 1, 0, none⟩)) ∧ PRep w' (w.heap.size + 1) s w.heap.size 0 [] ∧ Below w.heap.size w w' ∧ w'.heap.size = w.heap.size + 2 := by
 have hmm := @run_makeMap Tryz.prog
 go_enter Tryz.func48, Tryz.ntmps48
 go_wp2
 go_ret
 have e1 : (w.alloc (.map #[] 0)).heap.size = w.heap.size + 1 := by simp
 refine ⟨rfl, ⟨⟨?_, hs⟩, ?_, List.Pairwise.nil, fun x hx => by simp at hx, fun x hx => by simp at hx, by simp, Int.le_refl 0⟩, ((Below.refl _ _).alloc (Nat.le_refl _) _).alloc (by simp) _, by simp⟩
 ·rw [← e1, heap_alloc_new]
  simp only [tf_nil]
 ·exact (World.ownsMap_made w Tryz.prog 9 yar).alloc _
theorem info_ptr : (Tryz.prog.info? 92).map (fun i => (i.zero, i.size, i.bytes)) = some (some (.pointer none), 1, 8) := by kernel_rfl
theorem yyo {ops : Array Oper} {o : Oper} {a : Act} {K : Act → World → Prop} {Q : Exit → Act → World → Prop} {E : Prop} (w : World) (hgd : o.guard = none) (s x : Operand) (ho : o.op = .call { callee := .builtin .append, args := #[s, x], argTypes := #[95, 95] }) (base : Nat) (v : Value) (n : Nat) (xs : List Value) (hs : a.eval s = v) (hown : w.ownsRow base 92 1 v n xs)
  (k : Nat) (y : Addr) (hx : a.eval x = .slice (some ⟨k, 0, none⟩) 1 1) (hc : w.cell? ⟨k, 0, none⟩ = some (.pointer (some y))) (hn : n ≤ 1000000000000) (hb : base ≤ w.heap.size)
  (h : ∀ g cap w1, w1.ownsRow base 92 1 (.slice (some ⟨g, 0, none⟩) (n + 1) cap) (n + 1) (xs ++ [.pointer (some y)]) → w.grownBy w1 v.ownBlock → (v.ownBlock = some g ∨ g = w.heap.size) → g < w1.heap.size → K (a.put o.dst (.slice (some ⟨g, 0, none⟩) (n + 1) cap)) w1) :
  if Region.wanted o (yielded ops a.tmps) = true then Oper.wp Tryz.prog o a w K Q else E := by
 obtain ⟨i0, hi, hz0, hz1, hz2⟩ := info_parts info_ptr
 refine step_append_lies w hgd s x 95 ho base 92 i0 _ 1 8 Tryz.underlying95 hi hz0 hz1 hz2 rfl (by decide) v n xs hs hown ⟨k, 0, none⟩ 1 1 [.pointer (some y)] hx rfl ?_ ?_ (by omega) (by unfold maxLen; omega) (by omega) hb _ rfl h
 ·intro j u hj
  match j, hj with
  |0, hj => simp at hj; subst hj; simpa [Addr.add] using hc
 ·intro u hu; simp at hu; subst hu; rfl
def ptr (b : Nat) : Value := .pointer (some ⟨b, 0, none⟩)
structure Prt (w0 w : World) (i : Nat) (cw : Value) (rbs mbs : List Nat) : Prop where
 below : Below w0.heap.size w0 w
 net : w.heap[w0.heap.size]? = some (.cells #[cw] 97 (0, 0))
 rl : rbs.length = i
 ml : mbs.length = i
 c : w.ownsRow w0.heap.size 92 1 cw i (rbs.map ptr)
 rep : ∀ r rb mb, rbs[r]? = some rb → mbs[r]? = some mb → PRep w rb r mb 0 []
 mnd : mbs.Nodup
 lo : ∀ k, k ∈ rbs ∨ k ∈ mbs → w0.heap.size ≤ k ∧ k < w.heap.size
theorem Prt.start (w : World) : Prt w (w.alloc (.cells #[.slice none 0 0] 97)) 0 (.slice none 0 0) [] [] :=
 ⟨(Below.refl _ _).alloc (Nat.le_refl _) _, heap_alloc_new _ _, rfl, rfl, World.ownsRow_nil _ _ _ _, fun r rb mb h => by simp at h, List.nodup_nil, fun k hk => by simp at hk⟩
theorem Prt.cell (h : Prt w0 w i cw rbs mbs) : w.cell? ⟨w0.heap.size, 0, none⟩ = some cw ∧ w.frozen? ⟨w0.heap.size, 0, none⟩ = false ∧ w0.heap.size < w.heap.size :=
 ⟨by simp [World.cell?, h.net], by simp [World.frozen?, h.net], (Array.getElem?_eq_some_iff.1 h.net).1⟩
theorem Prt.row (h : Prt w0 w i cw rbs mbs) {g : Nat} (hg : cw.ownBlock = some g) : g ≠ w0.heap.size ∧ (∀ (r rb mb : Nat), rbs[r]? = some rb → mbs[r]? = some mb → g ≠ rb ∧ g ≠ mb) := by
 rcases h.c.2 with ⟨e, _⟩ | ⟨g', cap, cur, e, _, hb, _⟩
 ·rw [e] at hg; cases hg
 ·rw [e] at hg
  cases hg
  refine ⟨?_, fun r rb mb h1 h2 => ⟨?_, ?_⟩⟩
  ·intro e2
   simp only at e2 hb
   rw [e2, h.net] at hb
   cases hb
  ·intro e2
   have := (h.rep r rb mb h1 h2).rep.blk
   simp only at e2 hb
   rw [← e2, hb] at this
   cases this
  ·intro e2
   obtain ⟨es, cl, hm, _⟩ := (h.rep r rb mb h1 h2).own
   simp only at e2 hb
   rw [← e2, hb] at hm
   cases hm
theorem Prt.net1 (h : Prt w0 w i cw rbs mbs) (hb : Below w.heap.size w wz) {o : Obj} (hg : (wz.alloc o).grownBy w1 cw.ownBlock) :
  w1.heap[w0.heap.size]? = w.heap[w0.heap.size]? ∧ w1.cell? ⟨w0.heap.size, 0, none⟩ = some cw ∧ w1.frozen? ⟨w0.heap.size, 0, none⟩ = false := by
 obtain ⟨h1, h2, h3⟩ := h.cell
 have e : w1.heap[w0.heap.size]? = w.heap[w0.heap.size]? := by
  have := hb.size
  rw [hg.block _ (by simp; omega) (fun e => (h.row e.symm).1 rfl), Below.heap_alloc _ _ _ (by omega)]
  exact hb.block _ h3
 exact ⟨e, (World.cell?_of_block (w := w) e).trans h1, (World.frozen?_of_block (w := w) e).trans h2⟩
theorem Prt.add (h : Prt w0 w i cw rbs mbs) (hb : Below w.heap.size w wz) (hz : PRep wz (w.heap.size + 1) i w.heap.size 0 []) (hzs : wz.heap.size = w.heap.size + 2) (o : Obj) (g cap : Nat)
  (ho : w1.ownsRow w0.heap.size 92 1 (.slice (some ⟨g, 0, none⟩) (i + 1) cap) (i + 1) (rbs.map ptr ++ [ptr (w.heap.size + 1)])) (hg : (wz.alloc o).grownBy w1 cw.ownBlock) (hat : cw.ownBlock = some g ∨ g = (wz.alloc o).heap.size) :
  Prt w0 (w1.setCell ⟨w0.heap.size, 0, none⟩ (.slice (some ⟨g, 0, none⟩) (i + 1) cap)) (i + 1) (.slice (some ⟨g, 0, none⟩) (i + 1) cap) (rbs ++ [w.heap.size + 1]) (mbs ++ [w.heap.size]) := by
 obtain ⟨_, _, hbl⟩ := h.cell
 obtain ⟨hnb, _, _⟩ := h.net1 hb hg
 have hst : ∀ k, k < wz.heap.size → cw.ownBlock ≠ some k → w1.heap[k]? = wz.heap[k]? := fun k hk hc => by
  rw [hg.block k (by simp; omega) (fun e => hc e.symm)]; exact Below.heap_alloc _ _ _ hk
 have hg0 : g ≠ w0.heap.size := by
  rcases hat with q | q
  ·exact (h.row q).1
  ·rw [q]; simp; omega
 have hcl : ∀ k, cw.ownBlock = some k → k < w.heap.size := fun k e => (World.ownsRow.lt h.c k e).2
 have hbw : Below w0.heap.size w0 w1 := by
  have h1 := h.below.trans (hb.mono h.below.size)
  exact (h1.alloc h1.size o).grown hg (by simp; have := h1.size; omega) (fun k hk => (World.ownsRow.lt h.c k hk).1)
 have hs1 : wz.heap.size ≤ w1.heap.size := by have := hg.size; simp at this; omega
 have hs2 : (w1.setCell ⟨w0.heap.size, 0, none⟩ (.slice (some ⟨g, 0, none⟩) (i + 1) cap)).heap.size = w1.heap.size := by simp [World.setCell]
 refine ⟨hbw.setCell (Nat.le_refl _) _, ?_, by simp [h.rl], by simp [h.ml], ?_, ?_, ?_, ?_⟩
 ·have := heap_setCell_same w1 w0.heap.size 0 _ _ (.slice (some ⟨g, 0, none⟩) (i + 1) cap) (hnb.trans h.net)
  simpa using this
 ·rw [List.map_append]
  exact yas ho (fun k hk => ybn (by simp [Value.ownBlock] at hk; subst hk; exact hg0))
 ·intro r rb mb hr hm
  by_cases hri : r < rbs.length
  ·rw [List.getElem?_append_left hri] at hr
   rw [List.getElem?_append_left (by rw [h.ml, ← h.rl]; exact hri)] at hm
   have hp := h.rep r rb mb hr hm
   have l1 := h.lo rb (.inl (List.mem_of_getElem? hr))
   have l2 := h.lo mb (.inr (List.mem_of_getElem? hm))
   refine hp.keep ?_ ?_
   ·rw [ybn (by rintro rfl; have := hp.rep.blk; rw [h.net] at this; cases this), hst rb (by omega) (fun e => ((h.row e).2 r rb mb hr hm).1 rfl)]
    exact hb.block _ l1.2
   ·rw [ybn (by rintro rfl; obtain ⟨_, _, q, _⟩ := hp.own; rw [h.net] at q; cases q), hst mb (by omega) (fun e => ((h.row e).2 r rb mb hr hm).2 rfl)]
    exact hb.block _ l2.2
  ·rw [List.getElem?_append_right (by omega)] at hr
   rw [List.getElem?_append_right (by rw [h.ml, ← h.rl]; omega)] at hm
   have er : r = i := by
    have := (List.getElem?_eq_some_iff.1 hr).1
    simp at this
    have := h.rl
    omega
   subst er
   rw [h.rl] at hr
   rw [h.ml] at hm
   simp at hr hm
   subst hr
   subst hm
   refine hz.keep ?_ ?_
   ·rw [ybn (by simp only; omega), hst _ (by omega) (fun e => by have := hcl _ e; omega)]
   ·rw [ybn (by simp only; omega), hst _ (by omega) (fun e => by have := hcl _ e; omega)]
 ·rw [List.nodup_append]
  refine ⟨h.mnd, by simp, fun a ha b hb' => ?_⟩
  simp at hb'
  have := (h.lo a (.inr ha)).2
  omega
 ·intro k hk
  rw [hs2]
  have hw := h.below.size
  rcases hk with hk | hk
  ·rcases List.mem_append.1 hk with hk | hk
   ·have := h.lo k (.inl hk); omega
   ·simp at hk; omega
  ·rcases List.mem_append.1 hk with hk | hk
   ·have := h.lo k (.inr hk); omega
   ·simp at hk; omega
theorem nodup_of {l : List Nat} (h : ∀ (i j a : Nat), l[i]? = some a → l[j]? = some a → i = j) : l.Nodup := by
 unfold List.Nodup
 rw [List.pairwise_iff_getElem]
 intro i j hi hj hij e
 have := h i j l[i] (List.getElem?_eq_getElem hi) (by rw [e]; exact List.getElem?_eq_getElem hj)
 omega
theorem Prt.done {n : Nat} (h : Prt w0 w n cw rbs mbs) (h1 : 1 ≤ n) (h6 : n ≤ 6) : ∃ P : PN, PNet w w0.heap.size P (newAbs n) ∧ (∀ k, P.mem w0.heap.size k → w0.heap.size ≤ k) ∧ ∃ cur, w.heap[P.pb]? = some (.cells cur 92 (0, 0)) := by
 obtain ⟨g, cap, ec, hgl, hgs⟩ := World.ownsRow.form h.c (by omega)
 have hrow := h.row (g := g) (by rw [ec]; rfl)
 have hm : ∀ r rb, rbs[r]? = some rb → ∃ mb, mbs[r]? = some mb := fun r rb hr => ⟨_, List.getElem?_eq_getElem (by have := (List.getElem?_eq_some_iff.1 hr).1; have := h.rl; have := h.ml; omega)⟩
 have hr : ∀ r mb, mbs[r]? = some mb → ∃ rb, rbs[r]? = some rb := fun r rb hr => ⟨_, List.getElem?_eq_getElem (by have := (List.getElem?_eq_some_iff.1 hr).1; have := h.rl; have := h.ml; omega)⟩
 have hc := h.c
 rw [ec] at hc
 have hmem : ∀ k, k ∈ rbs → ∃ r mb, rbs[r]? = some k ∧ mbs[r]? = some mb := fun k hk => by
  obtain ⟨r, hr'⟩ := List.getElem?_of_mem hk
  obtain ⟨mb, hmb⟩ := hm r k hr'
  exact ⟨r, mb, hr', hmb⟩
 have hmem' : ∀ k, k ∈ mbs → ∃ r rb, rbs[r]? = some rb ∧ mbs[r]? = some k := fun k hk => by
  obtain ⟨r, hr'⟩ := List.getElem?_of_mem hk
  obtain ⟨rb, hrb⟩ := hr r k hr'
  exact ⟨r, rb, hrb, hr'⟩
 refine ⟨⟨g, rbs, mbs⟩, ⟨⟨⟨cap, by rw [h.net, ec]; rfl⟩, h.rl, fun r b hb => ?_, h6⟩, h.ml, h1, fun r rb mb a b => ⟨[], h.rep r rb mb a b, rfl⟩, ?_, ?_⟩, ?_, ?_⟩
 ·have hb' : rbs[r]? = some b := hb
  have hlt := (List.getElem?_eq_some_iff.1 hb').1
  have hrl := h.rl
  rw [World.ownsRow.cellAt hc r (by omega), List.getElem?_map, hb']
  rfl
 ·rw [List.nodup_cons, List.nodup_cons, List.nodup_append]
  refine ⟨?_, ?_, ?_, h.mnd, ?_⟩
  ·simp only [List.mem_cons, List.mem_append, not_or]
   refine ⟨fun e => hrow.1 e.symm, fun hk => ?_, fun hk => ?_⟩
   ·obtain ⟨r, mb, a, b⟩ := hmem _ hk
    have := (h.rep r _ mb a b).rep.blk
    rw [h.net] at this
    cases this
   ·obtain ⟨r, rb, a, b⟩ := hmem' _ hk
    obtain ⟨_, _, q, _⟩ := (h.rep r rb _ a b).own
    rw [h.net] at q
    cases q
  ·simp only [List.mem_append, not_or]
   refine ⟨fun hk => ?_, fun hk => ?_⟩
   ·obtain ⟨r, mb, a, b⟩ := hmem _ hk
    exact (hrow.2 r _ mb a b).1 rfl
   ·obtain ⟨r, rb, a, b⟩ := hmem' _ hk
    exact (hrow.2 r rb _ a b).2 rfl
  ·apply nodup_of
   intro i j a hi hj
   obtain ⟨m1, q1⟩ := hm i a hi
   obtain ⟨m2, q2⟩ := hm j a hj
   have b1 := (h.rep i a m1 hi q1).rep.c0
   have b2 := (h.rep j a m2 hj q2).rep.c0
   rw [b1] at b2
   simp at b2
   omega
  ·intro a ha b hb e
   obtain ⟨r, mb, q1, q2⟩ := hmem a ha
   obtain ⟨r', rb, q3, q4⟩ := hmem' b hb
   have b1 := (h.rep r a mb q1 q2).rep.blk
   obtain ⟨_, _, b2, _⟩ := (h.rep r' rb b q3 q4).own
   rw [← e, b1] at b2
   cases b2
 ·intro k hk
  rcases hk with rfl | rfl | hk | hk
  ·exact h.cell.2.2
  ·exact hgs
  ·exact (h.lo k (.inl hk)).2
  ·exact (h.lo k (.inr hk)).2
 ·intro k hk
  rcases hk with rfl | rfl | hk | hk
  ·exact Nat.le_refl _
  ·exact hgl
  ·exact (h.lo k (.inl hk)).1
  ·exact (h.lo k (.inr hk)).1
 ·rcases hc.2 with ⟨q, _⟩ | ⟨g', cap', cur, q, _, hb, _⟩
  ·cases q
  ·cases q
   exact ⟨cur, hb⟩
theorem netNew_bad (n : Int) (w : World) (hn : n < 1 ∨ 6 < n) :
  Calls Tryz.prog 25 #[.int .i64 n] w fun e w' => e = .returned (.tuple #[.pointer none, .int .i64 1]) ∧ w' = w := by
 by_cases h1 : n < 1
 ·have d1 : decide (n < 1) = true := by simp [h1]
  go_enter Tryz.func25, Tryz.ntmps25
  go_wp2
  go_ret2
  exact ⟨rfl, rfl⟩
 ·have d1 : decide (n < 1) = false := by simp; omega
  have d2 : decide (6 < n) = true := by simp; omega
  go_enter Tryz.func25, Tryz.ntmps25
  go_wp2
  go_ret2
  exact ⟨rfl, rfl⟩
theorem netNew_all (n : Nat) (w : World) (h1 : 1 ≤ n) (h6 : n ≤ 6) :
  Calls Tryz.prog 25 #[.int .i64 n] w fun e w' => e = .returned (.tuple #[.pointer (some ⟨w.heap.size, 0, none⟩), .int .i64 0]) ∧ ∃ P : PN, PNet w' w.heap.size P (newAbs n) ∧ (∀ k, P.mem w.heap.size k → w.heap.size ≤ k) ∧ (∃ cur, w'.heap[P.pb]? = some (.cells cur 92 (0, 0))) ∧ Below w.heap.size w w' := by
 have d1 : decide ((n : Int) < 1) = false := by simp; omega
 have d2 : decide ((6 : Int) < (n : Int)) = false := by simp; omega
 have P0 := yab (Prt.start w)
 go_enter Tryz.func25, Tryz.ntmps25
 go_wp2
 clear d1 d2
 go_loopw [15] (fun iv wr => ∃ i : Nat, i ≤ n ∧ iv = .int .i64 i ∧ ∃ cw rbs mbs, Hid (Prt w wr i cw rbs mbs)) (fun iv _ => n - (intOf iv).toNat)
 case atStart => exact ⟨0, Nat.zero_le _, rfl, _, _, _, P0⟩
 case round =>
  obtain ⟨i, hi, rfl, cw, rbs, mbs, hP⟩ := hrel
  by_cases hlt : i < n
  ·obtain ⟨c0, f0, hbl⟩ := hP.out.cell
   have hbz := hP.out.below.size
   go_wp2_with fail
   go_region_law (first
    |(go_simp; go_at_call 48; refine (yuz i (by omega) _).mono ?_; rintro e wz ⟨rfl, hozr, hbzr, hszr⟩; have hbzz := yab (⟨hbzr.os, hbzr.tape, hbzr.output, hbzr.size, hbzr.block⟩ : Below wr.heap.size wr wz); have hoz : Hid (PRep wz (wr.heap.size + 1) i wr.heap.size 0 []) := hozr; have hsz : Hid (wz.heap.size = wr.heap.size + 2) := hszr; clear hozr hszr; have z0 : wz.cell? ⟨w.heap.size, 0, none⟩ = some cw := (hbzz.out.cell (p := ⟨w.heap.size, 0, none⟩) hbl).trans c0; have hzz := hbzz.out.size; have z3 : ∀ o, (wz.alloc o).cell? ⟨w.heap.size, 0, none⟩ = some cw := fun o => (World.cell?_alloc_old wz o ⟨w.heap.size, 0, none⟩ (by simp only; omega)).trans z0; dsimp only)
    |(refine yyo _ (by rfl) (.tmp 22) (.tmp 25) (by rfl) w.heap.size cw i (rbs.map ptr) (by rfl) ((yas hP.out.c (fun k hk => hbzz.out.block k (World.ownsRow.lt hP.out.c k hk).2)).alloc _) wz.heap.size ⟨wr.heap.size + 1, 0, none⟩ (by rfl) (by simp) (by omega) (by simp; omega) ?_; intro g2 cp w1 ho2 hgr2 hat2 hl2; obtain ⟨_, e2, e3⟩ := hP.out.net1 hbzz.out hgr2))
   all_goals
    have HP1 := yab (hP.out.add hbzz.out hoz.out hsz.out _ g2 cp ho2 hgr2 hat2)
    clear ho2 hgr2 hat2 hl2 e2 e3 hoz hsz hbzr z0 z3 hzz c0 f0
    generalize hW : w1.setCell ⟨w.heap.size, 0, none⟩ (.slice (some ⟨g2, 0, none⟩) (i + 1) cp) = W at *
    clear hW
    go_wp2
    go_roundw
    case rel => exact ⟨i + 1, by omega, by go_num, _, _, _, HP1⟩
    case measure => simp [intOf]; omega
  ·have ei : i = n := by omega
   subst ei
   obtain ⟨P, hPN, hlo, hrw⟩ := hP.out.done h1 h6
   have HPN := yab hPN
   have HLO := yab hlo
   have HRW := yab hrw
   clear hPN hlo hrw
   go_wp2
   go_ret2
   exact ⟨rfl, P, HPN.out, HLO.out, HRW.out, hP.out.below⟩
end Go.Proofs.K

namespace Go.Proofs.K
open Go.RowKit Go.Maps
attribute [local go_sem ↓] muEq
theorem keep_kn (rb s : Nat) (cm : Nat → Int) (mb : Nat) (w : World) (h : ybs w rb s cm mb) (E : yau) (hE : yav E) (hl : E.length < maxLen) (hown : w.ownsMap Tryz.prog 9 yar mb E.length (ycb E)) (p : ByteArray) (hp : p.size ≤ 1000000000000) (R : Rec) (hbn : R.bn = 0) (hkn : eqT R.kn cm = false) :
  Calls Tryz.prog 112 #[.pointer (some ⟨rb, 0, none⟩), .string p, .agg #[.string R.text, .int .i64 R.br, .int .i64 R.bn, .int .i64 (R.ch 0), .int .i64 (R.ch 1), .int .i64 (R.ch 2), .int .i64 (R.ch 3), .int .i64 (R.ch 4), .int .i64 (R.ch 5), .int .i64 (R.kn 0), .int .i64 (R.kn 1), .int .i64 (R.kn 2), .int .i64 (R.kn 3), .int .i64 (R.kn 4), .int .i64 (R.kn 5)]] w fun e w' => e = .returned (.tuple #[]) ∧ ybs w' rb s cm mb ∧ w'.ownsMap Tryz.prog 9 yar mb (yoj p R E).length (ycb (yoj p R E)) ∧ Fr (fun k => k = mb) w w' := by
 have hkey : keyOf Tryz.prog 9 (.string p) = some (key p) := Go.WideMaps.keyOf_string_mk Tryz.underlying9 (by unfold maxLen; omega)
 have KM := yab (fun k => Kp.made h hown R k)
 have hlt := h.lt
 have hne : rb ≠ w.heap.size := by omega
 have r1 := h.ct 0 (by omega)
 have r2 := h.ct 1 (by omega)
 have r3 := h.ct 2 (by omega)
 have r4 := h.ct 3 (by omega)
 have r5 := h.ct 4 (by omega)
 have r6 := h.ct 5 (by omega)
 simp only [Nat.reduceAdd] at r1 r2 r3 r4 r5 r6
 clear h hown
 have MK := yab (fun V => yhy R.text R.br R.bn R.ch R.kn cm V (by omega))
 rw [hkn] at MK
 clear hkn hbn
 go_enter Tryz.func112, Tryz.ntmps112
 go_wp2
 go_region_law (first
  |(go_simp; go_at_call 170; refine (MK.out _).mono ?_; rintro e w1 ⟨rfl, hb1⟩; dsimp only))
 all_goals
  have K1 := yab ((KM.out 1).more hb1)
  clear hb1 KM r1 r2 r3 r4 r5 r6
  obtain ⟨k0, k1, k2, k3, k4, k5, k6, k7, k8, k9, k10, k11, k12, k13, k14⟩ := K1.out.rc.cells
  have c7 := K1.out.rep.c7
  go_wp2
  go_region_law (first
   |(go_simp; go_at_call 109; refine (yox p _ hp).mono ?_; rintro e w2 ⟨rfl, hb2⟩; have K2 := yab (K1.out.more (Below.undrew hb2)); clear hb2; obtain ⟨q0, q1, q2, q3, q4, q5, q6, q7, q8, q9, q10, q11, q12, q13, q14⟩ := K2.out.rc.cells; have c7' := K2.out.rep.c7; obtain ⟨w3, hrun, hown3, hturn⟩ := K2.out.own.store lawS Tryz.underlying184 hl hkey (yhg R); have hrun' : (muM 184 (.map (some mb)) (.string p) (.agg #[.string R.text, .int .i64 R.br, .int .i64 R.bn, .int .i64 (R.ch 0), .int .i64 (R.ch 1), .int .i64 (R.ch 2), .int .i64 (R.ch 3), .int .i64 (R.ch 4), .int .i64 (R.ch 5), .int .i64 (R.kn 0), .int .i64 (R.kn 1), .int .i64 (R.kn 2), .int .i64 (R.kn 3), .int .i64 (R.kn 4), .int .i64 (R.kn 5)])).run Tryz.prog w2 = .ok () w3 := hrun; have HO := yab hown3; have HT := yab hturn; clear hrun hown3 hturn; dsimp only))
 all_goals
  have ne := K2.out.rep.ne K2.out.own
  have F2 : Hid (Fr (fun k => k = mb) w w3) := (Fr.of_below K2.out.below).turned HT.out (.inl rfl)
  have R3 := yab (K2.out.rep.keep (ylb HT.out ne))
  have O3 := yab (yib (by have := HO.out; rw [ywk p R E hE] at this; exact this))
  go_wp2
  go_end0
  exact ⟨rfl, R3.out, O3.out, F2.out⟩
def ybw (E : yau) : yau := E.filter (fun x => decide (0 < x.2.bn))
theorem yng (E : yau) : (ybw E).length ≤ E.length := List.length_filter_le _ _
theorem lf_there (E : yau) : lf (Maps.has (ycb E)) (ybw E) = (ybw E).length := by
 unfold lf
 rw [ymt]
 intro x hx
 rw [yjc]
 exact yln (List.mem_filter.1 hx).1
theorem yuj {E : yau} (hE : yav E) {left : Lit → Bool} {x : ByteArray} {R : Rec} (hx : (x, R) ∈ E) (hl : left (key x) = true) : lf left (ybw E) = lf (fun z => left z && !z.sameKey (key x)) (ybw E) + (if 0 < R.bn then 1 else 0) := by
 by_cases h : 0 < R.bn
 ·rw [if_pos h]
  exact lf_step (hE.sublist List.filter_sublist) (List.mem_filter.2 ⟨hx, by simpa using h⟩) hl
 ·rw [if_neg h, Nat.add_zero]
  unfold lf
  congr 1
  apply List.filter_congr
  intro y hy
  obtain ⟨hy1, hy2⟩ := List.mem_filter.1 hy
  have hne : y.1 ≠ x := by
   intro e
   have : y = (x, R) := by
    have h1 : ∀ E : yau, yav E → y ∈ E → (x, R) ∈ E → y = (x, R) := fun E hE ha hb => by
     induction E with
     |nil => simp at ha
     |cons z E ih =>
      obtain ⟨p1, p2⟩ := List.pairwise_cons.1 hE
      rcases List.mem_cons.1 ha with ha1 | ha2
      ·rcases List.mem_cons.1 hb with hb1 | hb2
       ·rw [ha1, hb1]
       ·rw [← ha1] at p1
        have := yjq (p1 _ hb2); exact absurd e this
      ·rcases List.mem_cons.1 hb with hb1 | hb2
       ·rw [← hb1] at p1
        have := yjq (p1 _ ha2); exact absurd e.symm this
       ·exact ih p2 ha2 hb2
    exact h1 E hE hy1 hx
   rw [this] at hy2
   simp at hy2
   exact h hy2
  show left (key y.1) = (left (key y.1) && !(key y.1).sameKey (key x))
  rw [yfi, yew hne]
  simp
theorem yfo (rb s : Nat) (cm : Nat → Int) (mb : Nat) (w : World) (h : ybs w rb s cm mb) (E : yau) (hE : yav E) (hl : E.length < 100000000) (hown : w.ownsMap Tryz.prog 9 yar mb E.length (ycb E)) :
  Calls Tryz.prog 129 #[.pointer (some ⟨rb, 0, none⟩)] w fun e w' => e = .returned (.int .i64 (ybw E).length) ∧ Below w.heap.size w w' := by
 have c7 := h.c7
 have hml := hown.lt
 clear h
 go_enter Tryz.func129, Tryz.ntmps129
 go_wp2_with (first
  |(at_range; refine wpList_range_own _ rfl _ 184 rfl 9 197 lawS Tryz.underlying184 _ mb E.length _ rfl hown ?_; intro w0 hrg0 hg0 hs0)
  |go_in)
 go_frame
 have hb0 : Hid (Below w.heap.size w w0) := (Below.refl _ _).grown hg0 (by simp) (fun j hj => by cases hj)
 go_loopw [3] (fun nv wr => ∃ (left : Lit → Bool) (cnt : Nat), wr.ranges Tryz.prog 9 yar mb w.heap.size E.length (ycb E) left cnt ∧ (∃ k : Nat, nv = .int .i64 k ∧ k + lf left (ybw E) = (ybw E).length) ∧ Hid (Below w.heap.size w wr)) (fun _ wr => wr.rangeLeft mb w.heap.size)
 case atStart => exact ⟨_, _, hrg0, ⟨0, rfl, by rw [lf_there]; omega⟩, hb0⟩
 case round =>
  obtain ⟨left, cnt, hrg, ⟨k, rfl, hk⟩, hbw⟩ := hrel
  go_wp2_with (first
   |(at_next; refine wpList_next_ranges _ rfl _ rfl 9 lawS yar Value.string yad (fun key kl h => Maps.keyOf_string_inv Tryz.underlying9 h) recInv mb w.heap.size E.length (ycb E) left cnt rfl hrg ?_ ?_)
   |go_in)
  ·intro hc0 hl0
   rw [lf_end hl0] at hk
   simp only [Nat.add_zero] at hk
   subst hk
   go_wp2
   go_ret
   exact ⟨rfl, hbw.out⟩
  ·intro x R kl yd yp w1 cnt1 hkey hlk hv hat hrg1 hlt hg1 hs1 hen
   obtain ⟨rfl, _⟩ := key_of hkey
   obtain ⟨R', hm, hd⟩ := rec_at hat
   have hyd : yd = yct R := by rw [yhg] at hv; have := Option.some.inj hv; simp at this; exact this.1.symm
   have hbn : R.bn = R'.bn := recDat_bn (hyd.symm.trans hd)
   have LS := yab (yuj hE hm hlk)
   rw [← hbn] at LS
   have HB1 : Hid (Below w.heap.size w w1) := hbw.out.grown hg1 hbw.out.size (fun j hj => by cases hj; exact Nat.le_refl _)
   have RG := yab hrg
   have RG1 := yab hrg1
   have hkl : k ≤ E.length := by have := yng E; omega
   have hw : IntKind.i64.wrap ((k : Int) + 1) = (k + 1 : Nat) := by rw [IntKind.wrap_i64]; omega
   have HK := yab hk
   clear hkey hat hv hyd hd hm hg1 hrg hrg1 hown hk hbn
   by_cases hR : 0 < R.bn
   ·have hd0 : decide (0 < R.bn) = true := by simp [hR]
    rw [if_pos hR] at LS
    simp only [yad] at hen ⊢
    go_wp2_with (go_at_call 113; refine (yaw _ _ _ _ _ _ _ _ _ _).mono ?_; rintro e w2 ⟨rfl, hb2⟩)
    have HB2 : Hid (Below w.heap.size w w2) := (HB1.out.alloc HB1.out.size _).trans (hb2.mono (by have := HB1.out.size; simp; omega))
    have hsz1 := HB1.out.size
    have RG2 := yab (ykz (w' := w2) RG1.out ((hb2.block _ (by simp; omega)).trans (Below.heap_alloc _ _ _ (by omega))) ((hb2.block _ (by have := RG1.out.lt; simp; omega)).trans (Below.heap_alloc _ _ _ RG1.out.lt)))
    clear hb2
    go_roundw
    case rel => exact ⟨_, cnt1, RG2.out, ⟨k + 1, by first | rfl | go_num, by have := HK.out; have := LS.out; omega⟩, HB2⟩
    case measure => rw [RG2.out.left_eq, RG.out.left_eq]; exact hlt
   ·have hd0 : decide (0 < R.bn) = false := by simp; omega
    rw [if_neg hR] at LS
    simp only [yad] at hen ⊢
    go_wp2_with (go_at_call 113; refine (yaw _ _ _ _ _ _ _ _ _ _).mono ?_; rintro e w2 ⟨rfl, hb2⟩)
    have HB2 : Hid (Below w.heap.size w w2) := (HB1.out.alloc HB1.out.size _).trans (hb2.mono (by have := HB1.out.size; simp; omega))
    have hsz1 := HB1.out.size
    have RG2 := yab (ykz (w' := w2) RG1.out ((hb2.block _ (by simp; omega)).trans (Below.heap_alloc _ _ _ (by omega))) ((hb2.block _ (by have := RG1.out.lt; simp; omega)).trans (Below.heap_alloc _ _ _ RG1.out.lt)))
    clear hb2
    go_roundw
    case rel => exact ⟨_, cnt1, RG2.out, ⟨k, rfl, by have := HK.out; have := LS.out; omega⟩, HB2⟩
    case measure => rw [RG2.out.left_eq, RG.out.left_eq]; exact hlt
end Go.Proofs.K

namespace Go.Proofs.K
open Go.RowKit
attribute [local go_sem ↓] ykp
attribute [local go_sem] ygs
theorem hear_two (kb g cp : Nat) (t u v : Nat → Int) (w : World) (h : At9 w kb t) (hg : g < w.heap.size) (hu : ∀ j, j < 6 → w.cell? ⟨g, j, none⟩ = some (.int .i64 (u j))) (hv : ∀ j, j < 6 → w.cell? ⟨g, 6 + j, none⟩ = some (.int .i64 (v j))) :
  Calls Tryz.prog 110 #[.pointer (some ⟨kb, 9, none⟩), .slice (some ⟨g, 0, none⟩) 2 cp] w fun e w' => e = .returned (.tuple #[]) ∧ ∃ w1, Below w.heap.size w w1 ∧ w' = w1.setCells kb 9 [.int .i64 (yac t (yac u v) 0), .int .i64 (yac t (yac u v) 1), .int .i64 (yac t (yac u v) 2), .int .i64 (yac t (yac u v) 3), .int .i64 (yac t (yac u v) 4), .int .i64 (yac t (yac u v) 5)] := by
 have H := yab h
 have c0 := h.c0
 have c1 := h.c1
 have c2 := h.c2
 have c3 := h.c3
 have c4 := h.c4
 have c5 := h.c5
 have G1 := yab (ycn g cp u v w.drew hg hu hv)
 clear h hg hu hv
 go_enter Tryz.func110, Tryz.ntmps110
 go_wp2
 go_region_law (first
  |(have hz := BB.out.size; have X1 := yab (yfu w1 t (yac u v) 186); go_simp; go_at_call 128; refine (ycn w1.heap.size 2 t (yac u v) _ (by simp) (by exact X1.out.1) (by exact X1.out.2)).mono ?_; rintro e w2 ⟨rfl, hb2⟩; have B2 := yab ((BB.out.alloc hz _).trans (hb2.mono (by simp; omega))); have dth := (H.out.more B2.out).there; dsimp only)
  |(go_simp; go_at_call 128; refine G1.out.mono ?_; rintro e w1 ⟨rfl, hb1⟩; have BB := yab ((Below.refl w.heap.size w).drew.trans hb1); have H1 := H.out.more BB.out; have d0 := H1.c0; have d1 := H1.c1; have d2 := H1.c2; have d3 := H1.c3; have d4 := H1.c4; have d5 := H1.c5; clear H1 hb1; dsimp only))
 all_goals go_wp2
 all_goals go_end0
 all_goals exact ⟨rfl, w2, B2.out, rfl⟩
theorem hear_rec2 (b g cp : Nat) (u v : Nat → Int) (R : Rec) (w : World) (h : yap w b R) (hg : g < w.heap.size) (hu : ∀ j, j < 6 → w.cell? ⟨g, j, none⟩ = some (.int .i64 (u j))) (hv : ∀ j, j < 6 → w.cell? ⟨g, 6 + j, none⟩ = some (.int .i64 (v j))) :
  Calls Tryz.prog 110 #[.pointer (some ⟨b, 9, none⟩), .slice (some ⟨g, 0, none⟩) 2 cp] w fun e w' => e = .returned (.tuple #[]) ∧ yap w' b ⟨R.text, R.br, R.bn, R.ch, yac R.kn (yac u v)⟩ ∧ Fr (fun k => k = b) w w' := by
 refine (hear_two b g cp R.kn u v w h.at9 hg hu hv).mono ?_
 rintro e w' ⟨rfl, w1, hb1, rfl⟩
 exact ⟨rfl, (h.more hb1).setKnAll _, (Fr.of_below hb1).setCells b 9 _ (.inl rfl)⟩
end Go.Proofs.K
