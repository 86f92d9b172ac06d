/- A new record beside a replica's. -/
import Derived.Test.YtaelaldmibgibaaGreatDoorX38

set_option linter.all false
set_option maxHeartbeats 6000000
set_option maxRecDepth 100000

namespace Go.Proofs.K
open Go.RowKit Go.Maps
variable {V w : World} {b : Nat} {R : Rec}
theorem room_any (rb s : Nat) (cm : Nat → Int) (mb : Nat) (E : yau) (w : World) (h : Rg w rb s cm mb E) (R : Rec) :
  Calls Tryz.prog 106 #[.pointer (some ⟨rb, 0, none⟩), yad R] w fun e w' => e = .returned (.bool (noRoom R E)) ∧ Below w.heap.size w w' := by
 have B1 := yab ((Below.refl w.heap.size w).alloc (Nat.le_refl _) (.cells #[.string R.text, .int .i64 R.br, .int .i64 R.bn, .int .i64 (R.ch 0), .int .i64 (R.ch 1), .int .i64 (R.ch 2), .int .i64 (R.ch 3), .int .i64 (R.ch 4), .int .i64 (R.ch 5), .int .i64 (R.kn 0), .int .i64 (R.kn 1), .int .i64 (R.kn 2), .int .i64 (R.kn 3), .int .i64 (R.kn 4), .int .i64 (R.kn 5)] 197))
 have FI : Hid (∀ V, Below w.heap.size w V → Calls Tryz.prog 129 #[.pointer (some ⟨rb, 0, none⟩)] V fun e w' => e = .returned (.int .i64 (ybw E).length) ∧ Below w.heap.size w w') := fun V hb => by
  have h' := h.below hb
  refine (yfo rb s cm mb V h'.rep E h'.ris (by have := h'.len; omega) h'.own).mono ?_
  rintro e w' ⟨rfl, hb'⟩
  exact ⟨rfl, hb.trans (hb'.mono hb.size)⟩
 unfold yad noRoom
 clear h
 cases hd : decide (0 < R.bn)
 all_goals
  go_enter Tryz.func106, Tryz.ntmps106
  go_wp2_with (first
   |(go_at_call 113; refine (yaw _ _ _ _ _ _ _ _ _ _).mono ?_; rintro e w3 ⟨rfl, hbr⟩; have B3 := yab (B1.out.trans (hbr.mono B1.out.size)); clear hbr)
   |(go_at_call 129; refine (FI.out _ B3.out).mono ?_; rintro e w4 ⟨rfl, hbr⟩; have B4 := yab hbr; clear hbr))
  go_ret
  exact ⟨rfl, by first | exact B4.out | exact B3.out⟩
theorem pullR_ok (t f : Rec) (h0 : 0 ≤ t.bn) (hb : ykr t) (h0' : 0 ≤ f.bn) (hb' : ykr f) : 0 ≤ (ydk t f).1.bn ∧ ykr (ydk t f).1 := by
 unfold ydk ykr at *
 (repeat' split) <;> first | exact ⟨h0, hb⟩ | exact ⟨h0', hb'⟩ | exact ⟨Int.le_refl 0, 0, by omega, rfl⟩
structure Pp (w V : World) (b : Nat) (R : Rec) : Prop where
 rc : yap V b R
 ge : w.heap.size ≤ b
 bel : Below w.heap.size w V
theorem Pp.more {V' : World} (h : Pp w V b R) (hb : Below V.heap.size V V') : Pp w V' b R := ⟨h.rc.more hb, h.ge, h.bel.trans (hb.mono h.bel.size)⟩
theorem Pp.drew (h : Pp w V b R) : Pp w V.drew b R := h.more ⟨rfl, rfl, rfl, Nat.le_refl _, fun _ _ => rfl⟩
theorem Pp.zero (hb : Below w.heap.size w V) : Pp w (V.alloc (.cells #[.string ⟨#[]⟩, .int .i64 0, .int .i64 0, .int .i64 0, .int .i64 0, .int .i64 0, .int .i64 0, .int .i64 0, .int .i64 0, .int .i64 0, .int .i64 0, .int .i64 0, .int .i64 0, .int .i64 0, .int .i64 0] 197)) V.heap.size rec0 := ⟨⟨heap_alloc_new _ _⟩, hb.size, hb.alloc hb.size _⟩
theorem yap.setAll (h : yap w b R) (S : Rec) : yap (w.setCells b 0 [.string S.text, .int .i64 S.br, .int .i64 S.bn, .int .i64 (S.ch 0), .int .i64 (S.ch 1), .int .i64 (S.ch 2), .int .i64 (S.ch 3), .int .i64 (S.ch 4), .int .i64 (S.ch 5), .int .i64 (S.kn 0), .int .i64 (S.kn 1), .int .i64 (S.kn 2), .int .i64 (S.kn 3), .int .i64 (S.kn 4), .int .i64 (S.kn 5)]) b S := by
 constructor
 simp only [World.setCells]
 have h1 := heap_setCell_same w b 0 _ _ (.string S.text) h.blk
 have h2 := heap_setCell_same _ b 1 _ _ (.int .i64 S.br) h1
 have h3 := heap_setCell_same _ b 2 _ _ (.int .i64 S.bn) h2
 have h4 := heap_setCell_same _ b 3 _ _ (.int .i64 (S.ch 0)) h3
 have h5 := heap_setCell_same _ b 4 _ _ (.int .i64 (S.ch 1)) h4
 have h6 := heap_setCell_same _ b 5 _ _ (.int .i64 (S.ch 2)) h5
 have h7 := heap_setCell_same _ b 6 _ _ (.int .i64 (S.ch 3)) h6
 have h8 := heap_setCell_same _ b 7 _ _ (.int .i64 (S.ch 4)) h7
 have h9 := heap_setCell_same _ b 8 _ _ (.int .i64 (S.ch 5)) h8
 have h10 := heap_setCell_same _ b 9 _ _ (.int .i64 (S.kn 0)) h9
 have h11 := heap_setCell_same _ b 10 _ _ (.int .i64 (S.kn 1)) h10
 have h12 := heap_setCell_same _ b 11 _ _ (.int .i64 (S.kn 2)) h11
 have h13 := heap_setCell_same _ b 12 _ _ (.int .i64 (S.kn 3)) h12
 have h14 := heap_setCell_same _ b 13 _ _ (.int .i64 (S.kn 4)) h13
 have h15 := heap_setCell_same _ b 14 _ _ (.int .i64 (S.kn 5)) h14
 simpa using h15
theorem Pp.set (h : Pp w V b R) (S : Rec) : Pp w (V.setCells b 0 [.string S.text, .int .i64 S.br, .int .i64 S.bn, .int .i64 (S.ch 0), .int .i64 (S.ch 1), .int .i64 (S.ch 2), .int .i64 (S.ch 3), .int .i64 (S.ch 4), .int .i64 (S.ch 5), .int .i64 (S.kn 0), .int .i64 (S.kn 1), .int .i64 (S.kn 2), .int .i64 (S.kn 3), .int .i64 (S.kn 4), .int .i64 (S.kn 5)]) b S := by
 have hf : Fr (fun k => k = b) V (V.setCells b 0 [.string S.text, .int .i64 S.br, .int .i64 S.bn, .int .i64 (S.ch 0), .int .i64 (S.ch 1), .int .i64 (S.ch 2), .int .i64 (S.ch 3), .int .i64 (S.ch 4), .int .i64 (S.ch 5), .int .i64 (S.kn 0), .int .i64 (S.kn 1), .int .i64 (S.kn 2), .int .i64 (S.kn 3), .int .i64 (S.kn 4), .int .i64 (S.kn 5)]) := (Fr.refl _ _).setCells _ 0 _ (.inl rfl)
 exact ⟨h.rc.setAll S, h.ge, ⟨hf.os.trans h.bel.os, hf.tape.trans h.bel.tape, hf.output.trans h.bel.output, Nat.le_trans h.bel.size hf.size, fun k hk => (hf.block k (by have := h.rc.lt; have := h.ge; omega) (by have := h.ge; omega)).trans (h.bel.block k hk)⟩⟩
theorem Pp.other {i : Nat} (h : Pp w V b R) (hi : w.heap.size ≤ i) (hn : b ≠ i) (vs : List Value) : Pp w (V.setCells i 0 vs) b R := by
 have hf : Fr (fun k => k = i) V (V.setCells i 0 vs) := (Fr.refl _ _).setCells _ 0 _ (.inl rfl)
 exact ⟨h.rc.keep (hf.block _ h.rc.lt hn), h.ge, ⟨hf.os.trans h.bel.os, hf.tape.trans h.bel.tape, hf.output.trans h.bel.output, Nat.le_trans h.bel.size hf.size, fun k hk => (hf.block k (by have := h.rc.lt; have := h.ge; omega) (by omega)).trans (h.bel.block k hk)⟩⟩
theorem there0 (V : World) : (V.alloc (.cells #[.string ⟨#[]⟩, .int .i64 0, .int .i64 0, .int .i64 0, .int .i64 0, .int .i64 0, .int .i64 0, .int .i64 0, .int .i64 0, .int .i64 0, .int .i64 0, .int .i64 0, .int .i64 0, .int .i64 0, .int .i64 0] 197)).there V.heap.size 0 15 := yap.there (R := rec0) ⟨heap_alloc_new _ _⟩
end Go.Proofs.K

namespace Go.Proofs.K
open Go.RowKit
def ykw (n : Nat) : List RS := List.replicate n ⟨fun _ => 0, []⟩
theorem tf_zero (s : Nat) : tf s 0 = fun _ => 0 := tf_nil s
theorem nnew_any (n : Nat) (w : World) (h1 : 1 ≤ n) (h6 : n ≤ 6) :
  Calls Tryz.prog 25 #[.int .i64 n] w fun e w' => e = .returned (.tuple #[.pointer (some ⟨w.heap.size, 0, none⟩), .int .i64 0]) ∧ ∃ pb L, Nt w' w.heap.size pb L (ykw n) ∧ L.length = n ∧ w.heap.size ≤ pb ∧ (∀ x ∈ L, w.heap.size ≤ x.1 ∧ w.heap.size ≤ x.2) ∧ Below w.heap.size w w' := by
 refine (netNew_all n w h1 h6).mono ?_
 rintro e w' ⟨rfl, P, hP, hk, hrw, hb⟩
 have hrl : P.rbs.length = n := hP.net.len
 have hml : P.mbs.length = n := hP.ml
 have e1 : (P.rbs.zip P.mbs).map (·.1) = P.rbs := List.map_fst_zip (by omega)
 have e2 : (P.rbs.zip P.mbs).map (·.2) = P.mbs := List.map_snd_zip (by omega)
 have hlen : (ykw n).length = n := by simp [ykw]
 refine ⟨rfl, P.pb, P.rbs.zip P.mbs, ⟨?_, fun i x s hx hs => ?_, hP.lt _ (.inl rfl), hP.lt _ (.inr (.inl rfl)), ?_, hrw⟩, by simp; omega, hk _ (.inr (.inl rfl)), fun x hx => ?_, hb⟩
 ·rw [e1, hlen]; exact hP.net
 ·have hx1 : P.rbs[i]? = some x.1 := by rw [← e1, List.getElem?_map, hx]; rfl
  have hx2 : P.mbs[i]? = some x.2 := by rw [← e2, List.getElem?_map, hx]; rfl
  obtain ⟨E, hE, hF⟩ := hP.rep i x.1 x.2 hx1 hx2
  have eE : E = [] := by
   have : filesE E = [] := hF.symm
   simpa [filesE] using this
  subst eE
  have es : s = ⟨fun _ => 0, []⟩ := by
   unfold ykw at hs
   rw [List.getElem?_replicate] at hs
   split at hs
   ·exact (Option.some.inj hs).symm
   ·cases hs
  subst es
  have hr := hE.rep
  have ec : (newAbs n).c i = 0 := rfl
  rw [ec, tf_zero] at hr
  exact ⟨hr, hE.own, hE.ris, fun x hx => by simp at hx, by simp, Int.le_refl 0⟩
 ·rw [e1, e2]; exact hP.nd
 ·have m1 : x.1 ∈ P.rbs := by rw [← e1]; exact List.mem_map.2 ⟨x, hx, rfl⟩
  have m2 : x.2 ∈ P.mbs := by rw [← e2]; exact List.mem_map.2 ⟨x, hx, rfl⟩
  exact ⟨hk _ (.inr (.inr (.inl m1))), hk _ (.inr (.inr (.inr m2)))⟩
variable {V V' w : World} {b s : Nat} {R p q : Rec} {x : Int}
attribute [local go_sem ↓] Go.wp_at_zero Go.wp_at_succ
attribute [local go_sem ↓] ykp
attribute [local go_sem] ygs
theorem built18 (w : World) (a b d : Nat → Int) (ty : TypeId) :
  (∀ j, j < 6 → (w.alloc (.cells #[.int .i64 (a 0), .int .i64 (a 1), .int .i64 (a 2), .int .i64 (a 3), .int .i64 (a 4), .int .i64 (a 5), .int .i64 (b 0), .int .i64 (b 1), .int .i64 (b 2), .int .i64 (b 3), .int .i64 (b 4), .int .i64 (b 5), .int .i64 (d 0), .int .i64 (d 1), .int .i64 (d 2), .int .i64 (d 3), .int .i64 (d 4), .int .i64 (d 5)] ty)).cell? ⟨w.heap.size, j, none⟩ = some (.int .i64 (a j))) ∧
  (∀ j, j < 6 → (w.alloc (.cells #[.int .i64 (a 0), .int .i64 (a 1), .int .i64 (a 2), .int .i64 (a 3), .int .i64 (a 4), .int .i64 (a 5), .int .i64 (b 0), .int .i64 (b 1), .int .i64 (b 2), .int .i64 (b 3), .int .i64 (b 4), .int .i64 (b 5), .int .i64 (d 0), .int .i64 (d 1), .int .i64 (d 2), .int .i64 (d 3), .int .i64 (d 4), .int .i64 (d 5)] ty)).cell? ⟨w.heap.size, 6 + j, none⟩ = some (.int .i64 (b j))) ∧
  (∀ j, j < 6 → (w.alloc (.cells #[.int .i64 (a 0), .int .i64 (a 1), .int .i64 (a 2), .int .i64 (a 3), .int .i64 (a 4), .int .i64 (a 5), .int .i64 (b 0), .int .i64 (b 1), .int .i64 (b 2), .int .i64 (b 3), .int .i64 (b 4), .int .i64 (b 5), .int .i64 (d 0), .int .i64 (d 1), .int .i64 (d 2), .int .i64 (d 3), .int .i64 (d 4), .int .i64 (d 5)] ty)).cell? ⟨w.heap.size, 12 + j, none⟩ = some (.int .i64 (d j))) := by
 refine ⟨?_, ?_, ?_⟩
 all_goals
  intro j hj
  simp only [World.cell?, heap_alloc_new]
  match j, hj with
  |0, _ | 1, _ | 2, _ | 3, _ | 4, _ | 5, _ => rfl
structure S3 (w V : World) (b : Nat) (R p q : Rec) (s : Nat) (x : Int) : Prop where
 rc : yap V b R
 a : ∀ j, j < 6 → V.cell? ⟨w.heap.size, 3 + j, none⟩ = some (.int .i64 (p.ch j))
 o : ∀ j, j < 6 → V.cell? ⟨w.heap.size + 1, 3 + j, none⟩ = some (.int .i64 (q.ch j))
 e0 : V.cell? ⟨w.heap.size + 2, 0, none⟩ = some (.int .i64 s)
 e1 : V.cell? ⟨w.heap.size + 2, 1, none⟩ = some (.int .i64 x)
 lt : w.heap.size + 2 < V.heap.size
 blt : b < w.heap.size
 fr : Fr (fun k => k = b) w V
theorem S3.more (h : S3 w V b R p q s x) (hb : Below V.heap.size V V') : S3 w V' b R p q s x :=
 ⟨h.rc.more hb, fun j hj => (hb.cell (p := ⟨w.heap.size, 3 + j, none⟩) (by have := h.lt; simp only; omega)).trans (h.a j hj), fun j hj => (hb.cell (p := ⟨w.heap.size + 1, 3 + j, none⟩) (by have := h.lt; simp only; omega)).trans (h.o j hj), (hb.cell (p := ⟨w.heap.size + 2, 0, none⟩) h.lt).trans h.e0, (hb.cell (p := ⟨w.heap.size + 2, 1, none⟩) h.lt).trans h.e1, Nat.lt_of_lt_of_le h.lt hb.size, h.blt, h.fr.trans (Fr.of_below hb)⟩
theorem S3.on {R' : Rec} (h : S3 w V b R p q s x) (hr : yap V' b R') (hf : Fr (fun k => k = b) V V') : S3 w V' b R' p q s x :=
 ⟨hr, fun j hj => (World.cell?_of_block (w := V) (hf.block _ (by have := h.lt; simp only; omega) (by have := h.blt; simp only; omega))).trans (h.a j hj), fun j hj => (World.cell?_of_block (w := V) (hf.block _ (by have := h.lt; simp only; omega) (by have := h.blt; simp only; omega))).trans (h.o j hj), (World.cell?_of_block (w := V) (hf.block _ h.lt (by have := h.blt; simp only; omega))).trans h.e0, (World.cell?_of_block (w := V) (hf.block _ h.lt (by have := h.blt; simp only; omega))).trans h.e1, Nat.lt_of_lt_of_le h.lt hf.size, h.blt, h.fr.trans hf⟩
theorem S3.made (h : yap w b R) (p q : Rec) (s : Nat) (x : Int) : S3 w (((w.alloc (.cells #[.string p.text, .int .i64 p.br, .int .i64 p.bn, .int .i64 (p.ch 0), .int .i64 (p.ch 1), .int .i64 (p.ch 2), .int .i64 (p.ch 3), .int .i64 (p.ch 4), .int .i64 (p.ch 5)] 193)).alloc (.cells #[.string q.text, .int .i64 q.br, .int .i64 q.bn, .int .i64 (q.ch 0), .int .i64 (q.ch 1), .int .i64 (q.ch 2), .int .i64 (q.ch 3), .int .i64 (q.ch 4), .int .i64 (q.ch 5)] 193)).alloc (.cells #[.int .i64 s, .int .i64 x] 191)) b R p q s x := by
 have b1 := (Below.refl w.heap.size w).alloc (Nat.le_refl _) (.cells #[.string p.text, .int .i64 p.br, .int .i64 p.bn, .int .i64 (p.ch 0), .int .i64 (p.ch 1), .int .i64 (p.ch 2), .int .i64 (p.ch 3), .int .i64 (p.ch 4), .int .i64 (p.ch 5)] 193)
 have c1 : ∀ j, j < 6 → (w.alloc (.cells #[.string p.text, .int .i64 p.br, .int .i64 p.bn, .int .i64 (p.ch 0), .int .i64 (p.ch 1), .int .i64 (p.ch 2), .int .i64 (p.ch 3), .int .i64 (p.ch 4), .int .i64 (p.ch 5)] 193)).cell? ⟨w.heap.size, 3 + j, none⟩ = some (.int .i64 (p.ch j)) := by
  intro j hj
  simp only [World.cell?, heap_alloc_new]
  match j, hj with
  |0, _ | 1, _ | 2, _ | 3, _ | 4, _ | 5, _ => rfl
 generalize hV : w.alloc (.cells #[.string p.text, .int .i64 p.br, .int .i64 p.bn, .int .i64 (p.ch 0), .int .i64 (p.ch 1), .int .i64 (p.ch 2), .int .i64 (p.ch 3), .int .i64 (p.ch 4), .int .i64 (p.ch 5)] 193) = V at *
 have s1 : V.heap.size = w.heap.size + 1 := by rw [← hV]; simp
 have b2 := (Below.refl V.heap.size V).alloc (Nat.le_refl _) (.cells #[.string q.text, .int .i64 q.br, .int .i64 q.bn, .int .i64 (q.ch 0), .int .i64 (q.ch 1), .int .i64 (q.ch 2), .int .i64 (q.ch 3), .int .i64 (q.ch 4), .int .i64 (q.ch 5)] 193)
 have c2 : ∀ j, j < 6 → (V.alloc (.cells #[.string q.text, .int .i64 q.br, .int .i64 q.bn, .int .i64 (q.ch 0), .int .i64 (q.ch 1), .int .i64 (q.ch 2), .int .i64 (q.ch 3), .int .i64 (q.ch 4), .int .i64 (q.ch 5)] 193)).cell? ⟨V.heap.size, 3 + j, none⟩ = some (.int .i64 (q.ch j)) := by
  intro j hj
  simp only [World.cell?, heap_alloc_new]
  match j, hj with
  |0, _ | 1, _ | 2, _ | 3, _ | 4, _ | 5, _ => rfl
 generalize hU : V.alloc (.cells #[.string q.text, .int .i64 q.br, .int .i64 q.bn, .int .i64 (q.ch 0), .int .i64 (q.ch 1), .int .i64 (q.ch 2), .int .i64 (q.ch 3), .int .i64 (q.ch 4), .int .i64 (q.ch 5)] 193) = U at *
 have s2 : U.heap.size = w.heap.size + 2 := by rw [← hU]; simp [s1]
 have b3 := (Below.refl U.heap.size U).alloc (Nat.le_refl _) (.cells #[.int .i64 s, .int .i64 x] 191)
 have bel : Below w.heap.size w (U.alloc (.cells #[.int .i64 s, .int .i64 x] 191)) := (b1.trans (b2.mono (by omega))).trans (b3.mono (by omega))
 refine ⟨h.more bel, fun j hj => ?_, fun j hj => ?_, ?_, ?_, by simp [s2], h.lt, Fr.of_below bel⟩
 ·rw [b3.cell (by simp only; omega), b2.cell (by simp only; omega)]; exact c1 j hj
 ·rw [b3.cell (by simp only; omega), ← s1]; exact c2 j hj
 ·rw [← s2]; simp only [World.cell?, heap_alloc_new]; rfl
 ·rw [← s2]; simp only [World.cell?, heap_alloc_new]; rfl
theorem yap.there36 (h : yap w b R) : w.there b 3 6 := fun j hj => by
 have := h.there (3 + j) (by omega)
 rwa [Nat.zero_add] at this
def settled (s : Nat) (x : Int) (p q R : Rec) : Rec := if (decide (0 < R.bn)) = true then ⟨R.text, s, x, g3 p.ch q.ch (tf s x), R.kn⟩ else R
theorem settle_no (b : Nat) (R p q : Rec) (s : Nat) (x : Int) (w : World) (h : yap w b R) (hn : decide (0 < R.bn) = false) :
  Calls Tryz.prog 116 #[.pointer (some ⟨b, 0, none⟩), ybb p, ybb q, .agg #[.int .i64 s, .int .i64 x]] w fun e w' => e = .returned (.tuple #[]) ∧ yap w' b R ∧ Fr (fun k => k = b) w w' := by
 have S1 := yab (S3.made h p q s x)
 obtain ⟨k0, k1, k2, k3, k4, k5, k6, k7, k8, k9, k10, k11, k12, k13, k14⟩ := S1.out.rc.cells
 unfold ybb
 go_enter Tryz.func116, Tryz.ntmps116
 go_wp2_with (go_at_call 113; refine (yaw _ _ _ _ _ _ _ _ _ _).mono ?_; rintro e w1 ⟨rfl, hb1⟩; have S2 := yab (S1.out.more hb1); clear hb1)
 go_end0
 exact ⟨rfl, S2.out.rc, S2.out.fr⟩
theorem settle_yes (b : Nat) (R p q : Rec) (s : Nat) (hs : s < 6) (x : Int) (w : World) (h : yap w b R) (hn : decide (0 < R.bn) = true) :
  Calls Tryz.prog 116 #[.pointer (some ⟨b, 0, none⟩), ybb p, ybb q, .agg #[.int .i64 s, .int .i64 x]] w fun e w' => e = .returned (.tuple #[]) ∧ yap w' b ⟨R.text, s, x, g3 p.ch q.ch (tf s x), R.kn⟩ ∧ Fr (fun k => k = b) w w' := by
 have S1 := yab (S3.made h p q s x)
 obtain ⟨k0, k1, k2, k3, k4, k5, k6, k7, k8, k9, k10, k11, k12, k13, k14⟩ := S1.out.rc.cells
 unfold ybb
 clear h
 go_enter Tryz.func116, Tryz.ntmps116
 go_wp2_with (go_at_call 113; refine (yaw _ _ _ _ _ _ _ _ _ _).mono ?_; (try clear k0 k1 k2 k3 k4 k5 k6 k7 k8 k9 k10 k11 k12 k13 k14); rintro e w1 ⟨rfl, hb1⟩; have S2 := yab (S1.out.more hb1); obtain ⟨k0, k1, k2, k3, k4, k5, k6, k7, k8, k9, k10, k11, k12, k13, k14⟩ := S2.out.rc.cells; have fz := S2.out.rc.fz; have ev0 := S2.out.e0; have ev1 := S2.out.e1; clear hb1)
 clear k0 k1 k2 k3 k4 k5 k6 k7 k8 k9 k10 k11 k12 k13 k14 fz ev0 ev1
 have S4 : Hid (S3 w ((w1.setCell ⟨b, 1, none⟩ (.int .i64 s)).setCell ⟨b, 2, none⟩ (.int .i64 x)) b ⟨R.text, s, x, R.ch, R.kn⟩ p q s x) :=
  S2.out.on ((S2.out.rc.setBr s).setBn x) (((Fr.refl (fun k => k = b) w1).setCell (p := ⟨b, 1, none⟩) (.inl rfl) (.int .i64 s)).setCell (p := ⟨b, 2, none⟩) (.inl rfl) (.int .i64 x))
 generalize (w1.setCell ⟨b, 1, none⟩ (.int .i64 s)).setCell ⟨b, 2, none⟩ (.int .i64 x) = W1 at *
 have ma0 : W1.cell? ⟨w.heap.size, 3, none⟩ = some (.int .i64 (p.ch 0)) := S4.out.a 0 (by omega)
 have ma1 : W1.cell? ⟨w.heap.size, 4, none⟩ = some (.int .i64 (p.ch 1)) := S4.out.a 1 (by omega)
 have ma2 : W1.cell? ⟨w.heap.size, 5, none⟩ = some (.int .i64 (p.ch 2)) := S4.out.a 2 (by omega)
 have ma3 : W1.cell? ⟨w.heap.size, 6, none⟩ = some (.int .i64 (p.ch 3)) := S4.out.a 3 (by omega)
 have ma4 : W1.cell? ⟨w.heap.size, 7, none⟩ = some (.int .i64 (p.ch 4)) := S4.out.a 4 (by omega)
 have ma5 : W1.cell? ⟨w.heap.size, 8, none⟩ = some (.int .i64 (p.ch 5)) := S4.out.a 5 (by omega)
 have mo0 : W1.cell? ⟨w.heap.size + 1, 3, none⟩ = some (.int .i64 (q.ch 0)) := S4.out.o 0 (by omega)
 have mo1 : W1.cell? ⟨w.heap.size + 1, 4, none⟩ = some (.int .i64 (q.ch 1)) := S4.out.o 1 (by omega)
 have mo2 : W1.cell? ⟨w.heap.size + 1, 5, none⟩ = some (.int .i64 (q.ch 2)) := S4.out.o 2 (by omega)
 have mo3 : W1.cell? ⟨w.heap.size + 1, 6, none⟩ = some (.int .i64 (q.ch 3)) := S4.out.o 3 (by omega)
 have mo4 : W1.cell? ⟨w.heap.size + 1, 7, none⟩ = some (.int .i64 (q.ch 4)) := S4.out.o 4 (by omega)
 have mo5 : W1.cell? ⟨w.heap.size + 1, 8, none⟩ = some (.int .i64 (q.ch 5)) := S4.out.o 5 (by omega)
 have me0 : W1.cell? ⟨w.heap.size + 2, 0, none⟩ = some (.int .i64 s) := S4.out.e0
 have me1 : W1.cell? ⟨w.heap.size + 2, 1, none⟩ = some (.int .i64 x) := S4.out.e1
 have DR : Hid (∀ V, Below W1.heap.size W1.drew V → S3 w V b ⟨R.text, s, x, R.ch, R.kn⟩ p q s x) := fun V hb => S4.out.more ⟨hb.os, hb.tape, hb.output, hb.size, hb.block⟩
 go_region_law (first
  |(go_simp; go_at_call 111; refine (yjs s x _ hs).mono ?_; (try clear ma0 ma1 ma2 ma3 ma4 ma5 mo0 mo1 mo2 mo3 mo4 mo5 me0 me1); rintro e w2 ⟨rfl, hb2⟩; have S5 := yab (DR.out _ hb2); have na0 : w2.cell? ⟨w.heap.size, 3, none⟩ = some (.int .i64 (p.ch 0)) := S5.out.a 0 (by omega); have na1 : w2.cell? ⟨w.heap.size, 4, none⟩ = some (.int .i64 (p.ch 1)) := S5.out.a 1 (by omega); have na2 : w2.cell? ⟨w.heap.size, 5, none⟩ = some (.int .i64 (p.ch 2)) := S5.out.a 2 (by omega); have na3 : w2.cell? ⟨w.heap.size, 6, none⟩ = some (.int .i64 (p.ch 3)) := S5.out.a 3 (by omega); have na4 : w2.cell? ⟨w.heap.size, 7, none⟩ = some (.int .i64 (p.ch 4)) := S5.out.a 4 (by omega); have na5 : w2.cell? ⟨w.heap.size, 8, none⟩ = some (.int .i64 (p.ch 5)) := S5.out.a 5 (by omega); have no0 : w2.cell? ⟨w.heap.size + 1, 3, none⟩ = some (.int .i64 (q.ch 0)) := S5.out.o 0 (by omega); have no1 : w2.cell? ⟨w.heap.size + 1, 4, none⟩ = some (.int .i64 (q.ch 1)) := S5.out.o 1 (by omega); have no2 : w2.cell? ⟨w.heap.size + 1, 5, none⟩ = some (.int .i64 (q.ch 2)) := S5.out.o 2 (by omega); have no3 : w2.cell? ⟨w.heap.size + 1, 6, none⟩ = some (.int .i64 (q.ch 3)) := S5.out.o 3 (by omega); have no4 : w2.cell? ⟨w.heap.size + 1, 7, none⟩ = some (.int .i64 (q.ch 4)) := S5.out.o 4 (by omega); have no5 : w2.cell? ⟨w.heap.size + 1, 8, none⟩ = some (.int .i64 (q.ch 5)) := S5.out.o 5 (by omega); have ne0 : w2.cell? ⟨w.heap.size + 2, 0, none⟩ = some (.int .i64 s) := S5.out.e0; have ne1 : w2.cell? ⟨w.heap.size + 2, 1, none⟩ = some (.int .i64 x) := S5.out.e1; have KB := yab (built18 w2 p.ch q.ch (tf s x) 186); clear hb2; dsimp only)
  |(go_simp; go_at_call 128; refine (yqy w2.heap.size 3 p.ch q.ch (tf s x) _ (by simp) (by exact KB.out.1) (by exact KB.out.2.1) (by exact KB.out.2.2)).mono ?_; rintro e w3 ⟨rfl, hb3⟩; have S6 := yab ((S5.out.more ((Below.refl _ _).alloc (Nat.le_refl _) (.cells #[.int .i64 (p.ch 0), .int .i64 (p.ch 1), .int .i64 (p.ch 2), .int .i64 (p.ch 3), .int .i64 (p.ch 4), .int .i64 (p.ch 5), .int .i64 (q.ch 0), .int .i64 (q.ch 1), .int .i64 (q.ch 2), .int .i64 (q.ch 3), .int .i64 (q.ch 4), .int .i64 (q.ch 5), .int .i64 ((tf s x) 0), .int .i64 ((tf s x) 1), .int .i64 ((tf s x) 2), .int .i64 ((tf s x) 3), .int .i64 ((tf s x) 4), .int .i64 ((tf s x) 5)] 186))).more hb3); have dth := S6.out.rc.there36; clear hb3; dsimp only))
 all_goals go_wp2
 all_goals go_end0
 all_goals exact ⟨rfl, S6.out.rc.setCh (g3 p.ch q.ch (tf s x)), S6.out.fr.setCells b 3 _ (.inl rfl)⟩
theorem settle_any (b : Nat) (R p q : Rec) (s : Nat) (hs : s < 6) (x : Int) (w : World) (h : yap w b R) :
  Calls Tryz.prog 116 #[.pointer (some ⟨b, 0, none⟩), ybb p, ybb q, .agg #[.int .i64 s, .int .i64 x]] w fun e w' => e = .returned (.tuple #[]) ∧ yap w' b (settled s x p q R) ∧ Fr (fun k => k = b) w w' := by
 unfold settled
 cases hn : decide (0 < R.bn)
 ·simpa using settle_no b R p q s x w h hn
 ·simpa using settle_yes b R p q s hs x w h hn
end Go.Proofs.K

namespace Go.Proofs.K
open Go.RowKit Go.Maps
theorem room_rg (rb s : Nat) (cm : Nat → Int) (mb : Nat) (E : yau) (w : World) (h : Rg w rb s cm mb E) (R : Rec) :
  Calls Tryz.prog 106 #[.pointer (some ⟨rb, 0, none⟩), yad R] w fun e w' => e = .returned (.bool (noRoom R E)) ∧ Below w.heap.size w w' := by
 have B1 := yab ((Below.refl w.heap.size w).alloc (Nat.le_refl _) (.cells #[.string R.text, .int .i64 R.br, .int .i64 R.bn, .int .i64 (R.ch 0), .int .i64 (R.ch 1), .int .i64 (R.ch 2), .int .i64 (R.ch 3), .int .i64 (R.ch 4), .int .i64 (R.ch 5), .int .i64 (R.kn 0), .int .i64 (R.kn 1), .int .i64 (R.kn 2), .int .i64 (R.kn 3), .int .i64 (R.kn 4), .int .i64 (R.kn 5)] 197))
 have FI : Hid (∀ V, Below w.heap.size w V → Calls Tryz.prog 129 #[.pointer (some ⟨rb, 0, none⟩)] V fun e w' => e = .returned (.int .i64 (ybw E).length) ∧ Below w.heap.size w w') := fun V hb => by
  have h' := h.below hb
  refine (yfo rb s cm mb V h'.rep E h'.ris (by have := h'.len; omega) h'.own).mono ?_
  rintro e w' ⟨rfl, hb'⟩
  exact ⟨rfl, hb.trans (hb'.mono hb.size)⟩
 unfold yad noRoom
 clear h
 cases hd : decide (0 < R.bn)
 all_goals
  go_enter Tryz.func106, Tryz.ntmps106
  go_wp2_with (first
   |(go_at_call 113; refine (yaw _ _ _ _ _ _ _ _ _ _).mono ?_; rintro e w3 ⟨rfl, hbr⟩; have B3 := yab (B1.out.trans (hbr.mono B1.out.size)); clear hbr)
   |(go_at_call 129; refine (FI.out _ B3.out).mono ?_; rintro e w4 ⟨rfl, hbr⟩; have B4 := yab hbr; clear hbr))
  go_ret
  exact ⟨rfl, by first | exact B4.out | exact B3.out⟩
structure Rv (w V : World) (rb s mb b : Nat) (cm : Nat → Int) (E : yau) (R : Rec) (eb : Nat) (eo : Option Obj) (b1 : Nat) (R1 : Rec) (b2 : Nat) (R2 : Rec) : Prop where
 sg : Sg w V rb s mb b cm E R eb eo
 r1 : yap V b1 R1
 r2 : yap V b2 R2
 g1 : w.heap.size ≤ b1
 g2 : w.heap.size ≤ b2
 n1 : b ≠ b1
 n2 : b ≠ b2
section
variable {w V V' : World} {rb s mb b : Nat} {cm : Nat → Int} {E : yau} {R R' : Rec} {eb : Nat} {eo : Option Obj} {b1 b2 : Nat} {R1 R2 : Rec}
theorem Rv.below (h : Rv w V rb s mb b cm E R eb eo b1 R1 b2 R2) (hb : Below V.heap.size V V') : Rv w V' rb s mb b cm E R eb eo b1 R1 b2 R2 :=
 ⟨h.sg.below hb, h.r1.more hb, h.r2.more hb, h.g1, h.g2, h.n1, h.n2⟩
theorem Rv.drew (h : Rv w V rb s mb b cm E R eb eo b1 R1 b2 R2) : Rv w V.drew rb s mb b cm E R eb eo b1 R1 b2 R2 := h.below ⟨rfl, rfl, rfl, Nat.le_refl _, fun _ _ => rfl⟩
theorem Rv.onRec (h : Rv w V rb s mb b cm E R eb eo b1 R1 b2 R2) (hf : Fr (fun k => k = b) V V') (hr : yap V' b R') : Rv w V' rb s mb b cm E R' eb eo b1 R1 b2 R2 :=
 ⟨h.sg.onRec hf hr, h.r1.keep (hf.block _ h.r1.lt h.n1.symm), h.r2.keep (hf.block _ h.r2.lt h.n2.symm), h.g1, h.g2, h.n1, h.n2⟩
theorem Rv.alloc_ev (h : Rv w V rb s mb b cm E R eb eo b1 R1 b2 R2) (o : Obj) : Rv w (V.alloc o) rb s mb b cm E R V.heap.size (some o) b1 R1 b2 R2 := by
 have hb : Below V.heap.size V (V.alloc o) := (Below.refl _ _).alloc (Nat.le_refl _) o
 exact ⟨h.sg.alloc_ev o, h.r1.more hb, h.r2.more hb, h.g1, h.g2, h.n1, h.n2⟩
theorem Rv.rg (h : Rv w V rb s mb b cm E R eb eo b1 R1 b2 R2) {cm0 : Nat → Int} (h0 : Rg w rb s cm0 mb E) (hc : 0 ≤ cm s) : Rg V rb s cm mb E := ⟨h.sg.rep, h.sg.own, h0.ris, h0.bn, h0.len, hc⟩
theorem Rv.full (S : Rv w V rb s mb b cm E R eb eo b1 R1 b2 R2) : Calls Tryz.prog 105 #[.pointer (some ⟨rb, 0, none⟩)] V fun e w' => e = .returned (.bool (decide (1000000000 ≤ cm s))) ∧ Rv w w' rb s mb b cm E R eb eo b1 R1 b2 R2 := by
 refine (yix rb s cm mb V S.sg.rep).mono ?_
 rintro e w' ⟨rfl, nq, rfl⟩
 exact ⟨rfl, S.below ⟨rfl, rfl, rfl, Nat.le_refl _, fun _ _ => rfl⟩⟩
theorem Rv.there (S : Rv w V rb s mb b cm E R eb eo b1 R1 b2 R2) (Q : Rec) : Calls Tryz.prog 113 #[ybb Q] V fun e w' => e = .returned (.bool (decide (0 < Q.bn))) ∧ Rv w w' rb s mb b cm E R eb eo b1 R1 b2 R2 := by
 refine (yaw _ _ _ _ _ _ _ _ _ V).mono ?_
 rintro e w' ⟨rfl, hb⟩
 exact ⟨rfl, S.below hb⟩
theorem Rv.room (S : Rv w V rb s mb b cm E R eb eo b1 R1 b2 R2) (h : Rg w rb s cm mb E) (Q : Rec) : Calls Tryz.prog 106 #[.pointer (some ⟨rb, 0, none⟩), yad Q] V fun e w' => e = .returned (.bool (noRoom Q E)) ∧ Rv w w' rb s mb b cm E R eb eo b1 R1 b2 R2 := by
 refine (room_rg rb s cm mb E V (S.rg h h.c0) Q).mono ?_
 rintro e w' ⟨rfl, hb⟩
 exact ⟨rfl, S.below hb⟩
theorem Rv.next (S : Rv w V rb s mb b cm E R eb eo b1 R1 b2 R2) (h0 : 0 ≤ cm s) (hc : cm s < 1000000000) : Calls Tryz.prog 107 #[.pointer (some ⟨rb, 0, none⟩)] V fun e w' => e = .returned (.agg #[.int .i64 s, .int .i64 (cm s + 1)]) ∧ Rv w w' rb s mb b (nxG s cm) E R eb eo b1 R1 b2 R2 := by
 refine (next_any rb s cm mb V S.sg.rep h0 hc).mono ?_
 rintro e w' ⟨rfl, hr, hf⟩
 have hl := S.sg.rlt
 have h1 : b ≠ rb := by have := S.sg.bge; omega
 have h2 := (S.sg.rep.ne S.sg.own).symm
 refine ⟨rfl, ⟨S.sg.rc.keep (hf.block _ S.sg.rc.lt h1), hr, ybf S.sg.own (hf.block _ S.sg.own.lt h2), S.sg.fr.trans (hf.mono (fun k _ e => .inl e)), S.sg.rlt, S.sg.mlt, S.sg.bge, fun o ho => ?_⟩, S.r1.keep (hf.block _ S.r1.lt (by have := S.g1; omega)), S.r2.keep (hf.block _ S.r2.lt (by have := S.g2; omega)), S.g1, S.g2, S.n1, S.n2⟩
 obtain ⟨e1, e2, e3⟩ := S.sg.ev o ho
 exact ⟨by rw [hf.block _ (S.sg.elt o ho) (by omega)]; exact e1, e2, e3⟩
theorem Rv.settle (S : Rv w V rb s mb b cm E R eb eo b1 R1 b2 R2) (x : Int) : Calls Tryz.prog 116 #[.pointer (some ⟨b, 0, none⟩), ybb R1, ybb R2, .agg #[.int .i64 s, .int .i64 x]] V fun e w' => e = .returned (.tuple #[]) ∧ Rv w w' rb s mb b cm E (settled s x R1 R2 R) eb eo b1 R1 b2 R2 := by
 refine (settle_any b R R1 R2 s S.sg.rep.hs x V S.sg.rc).mono ?_
 rintro e w' ⟨rfl, hr, hf⟩
 exact ⟨rfl, S.onRec hf hr⟩
theorem Rv.alone (S : Rv w V rb s mb b cm E R eb eo b1 R1 b2 R2) (x : Int) : Calls Tryz.prog 111 #[.agg #[.int .i64 s, .int .i64 x]] V fun e w' => e = .returned (.agg #[.int .i64 (tf s x 0), .int .i64 (tf s x 1), .int .i64 (tf s x 2), .int .i64 (tf s x 3), .int .i64 (tf s x 4), .int .i64 (tf s x 5)]) ∧ Rv w w' rb s mb b cm E R eb eo b1 R1 b2 R2 := by
 refine (yjs s x V S.sg.rep.hs).mono ?_
 rintro e w' ⟨rfl, hb⟩
 exact ⟨rfl, S.below hb⟩
theorem Rv.hear2 (S : Rv w V rb s mb b cm E R eb eo b1 R1 b2 R2) (u v : Nat → Int) (ty : TypeId) : Calls Tryz.prog 110 #[.pointer (some ⟨b, 9, none⟩), .slice (some ⟨V.heap.size, 0, none⟩) 2 2] (V.alloc (.cells #[.int .i64 (u 0), .int .i64 (u 1), .int .i64 (u 2), .int .i64 (u 3), .int .i64 (u 4), .int .i64 (u 5), .int .i64 (v 0), .int .i64 (v 1), .int .i64 (v 2), .int .i64 (v 3), .int .i64 (v 4), .int .i64 (v 5)] ty)) fun e w' => e = .returned (.tuple #[]) ∧ Rv w w' rb s mb b cm E ⟨R.text, R.br, R.bn, R.ch, yac R.kn (yac u v)⟩ eb eo b1 R1 b2 R2 := by
 have S' := S.below ((Below.refl _ _).alloc (Nat.le_refl _) (.cells #[.int .i64 (u 0), .int .i64 (u 1), .int .i64 (u 2), .int .i64 (u 3), .int .i64 (u 4), .int .i64 (u 5), .int .i64 (v 0), .int .i64 (v 1), .int .i64 (v 2), .int .i64 (v 3), .int .i64 (v 4), .int .i64 (v 5)] ty))
 obtain ⟨q1, q2⟩ := yfu V u v ty
 refine (hear_rec2 b V.heap.size 2 u v R _ S'.sg.rc (by simp) q1 q2).mono ?_
 rintro e w' ⟨rfl, hr, hf⟩
 exact ⟨rfl, S'.onRec hf hr⟩
theorem Rv.evCells {x : Int} (S : Rv w V rb s mb b cm E R eb (some (.cells #[.int .i64 s, .int .i64 x] 191)) b1 R1 b2 R2) : V.cell? ⟨eb, 0, none⟩ = some (.int .i64 s) ∧ V.cell? ⟨eb, 1, none⟩ = some (.int .i64 x) := S.sg.evCells
end
end Go.Proofs.K

namespace Go.Proofs.K
open Go.RowKit Go.Maps
theorem yvg (rb s : Nat) (cm : Nat → Int) (mb : Nat) (E : yau) (rb' s' : Nat) (cm' : Nat → Int) (mb' : Nat) (E' : yau) (w : World) (h : Rg w rb s cm mb E) (h' : Rg w rb' s' cm' mb' E') (p : ByteArray) (hp : p.size ≤ 1000000000000) (th : Bool) (Ra Ro Rt : Rec) (z : Int) (e1 : ybk s cm (ybh p E) = Ra) (e2 : ybk s' cm' (ybh p E') = Ro) (e3 : ydk Ra Ro = (Rt, z)) (hz : z ≠ 3) :
  Calls Tryz.prog 67 #[.pointer (some ⟨rb, 0, none⟩), .pointer (some ⟨rb', 0, none⟩), .string p, .bool th] w fun e w' => e = .returned (.int .i64 4) ∧ Below w.heap.size w w' := by
 have C1 := yab (yaz rb s cm mb E w h.rep h.own p (by unfold maxLen; omega))
 have C2 : Hid (∀ V, Below w.heap.size w V → Calls Tryz.prog 104 #[.pointer (some ⟨rb', 0, none⟩), .string p] V fun e w' => e = .returned (yad Ro) ∧ Below w.heap.size w w') := fun V hb => by
  have q := h'.below hb
  rw [← e2]
  refine (yaz rb' s' cm' mb' E' V q.rep q.own p (by unfold maxLen; omega)).mono ?_
  rintro e w' ⟨rfl, hb'⟩
  exact ⟨rfl, hb.trans (hb'.mono hb.size)⟩
 have o1 := yif h p
 have o2 := yif h' p
 rw [e1] at C1 o1
 rw [e2] at o2
 have C3 : Hid (∀ V, Calls Tryz.prog 115 #[yad Ra, yad Ro] V fun e w' => e = .returned (.tuple #[yad Rt, .int .i64 z]) ∧ Below V.heap.size V w') := fun V => by
  have := yoi Ra Ro o1.2 o2.2 V
  rw [e3] at this
  exact this
 have hz1 : (z == 3) = false := by simpa using hz
 unfold yad at C1 C2 C3
 clear h h' e1 e2 e3 o1 o2
 go_enter Tryz.func67, Tryz.ntmps67
 go_wp2_with (first
  |(go_at_call_of 104 (Value.pointer (some ⟨rb, 0, none⟩)); refine C1.out.mono ?_; rintro e w1 ⟨rfl, hb1⟩; have B1 := yab hb1; clear hb1)
  |(go_at_call 104; refine (C2.out _ B1.out).mono ?_; rintro e w2 ⟨rfl, hb2⟩; have B2 := yab hb2; have S2 := yab (R2.made w2 Ra Ro); clear hb2)
  |(go_at_call 115; refine (C3.out _).mono ?_; rintro e w3 ⟨rfl, hb3⟩; have S3 := yab (S2.out.more hb3); have B3 := yab (B2.out.trans (S3.out.bel.mono B2.out.size)); clear hb3))
 go_ret
 exact ⟨rfl, B3.out.alloc B3.out.size _⟩
open Go.RowKit Go.Lib Go.Maps
theorem beginN_any (t : ByteArray) (ht : t.size ≤ 10000000) (w : World) (hg : yez w) :
  Calls Tryz.prog 80 #[.string t] w fun e w' => (match yua (bs t) with
   |none => e = .returned (.tuple #[.pointer none, .bool false])
   |some n => ∃ nb pb L, e = .returned (.tuple #[.pointer (some ⟨nb, 0, none⟩), .bool true]) ∧ Nt w' nb pb L (ykw n) ∧ w.heap.size ≤ nb ∧ w.heap.size ≤ pb) ∧ Below w.heap.size w w' := by
 have CP : Hid (Calls Tryz.prog 143 #[.string t, .string ⟨#[114, 101, 117, 110, 105, 111, 110, 32]⟩] w fun e w' => e = .returned (.tuple #[.string (yaf (trimPrefix (bs t) (bs yao))), .bool (hasPrefix (bs t) (bs yao))]) ∧ w' = w) := Tryz.strings_CutPrefix t yao w
 have hsz : (yaf (trimPrefix (bs t) (bs yao))).size ≤ 10000000 := by
  rw [← yax, yah]
  unfold trimPrefix
  split
  ·rw [List.length_drop, yax]; omega
  ·rw [yax]; omega
 have RN : Hid (Calls Tryz.prog 144 #[.string (yaf (trimPrefix (bs t) (bs yao)))] w fun e w' => e = .returned (.tuple #[.int .i64 ((ygu (trimPrefix (bs t) (bs yao))).getD 0 : Nat), .bool (ygu (trimPrefix (bs t) (bs yao))).isSome]) ∧ Below w.heap.size w w') := by
  have := yei (yaf (trimPrefix (bs t) (bs yao))) (by omega) w hg
  rw [yah] at this
  exact this
 have HR : Hid (yua (bs t) = if hasPrefix (bs t) (bs yao) = true then (ygu (trimPrefix (bs t) (bs yao))).bind fun n => if 1 ≤ n ∧ n ≤ 6 then some n else none else none) := rfl
 have HN : Hid (∀ n, ygu (trimPrefix (bs t) (bs yao)) = some n → n ≤ 1000000000) := fun n h => ((yjy _ _).1 h).1
 generalize yua (bs t) = R at *
 generalize hasPrefix (bs t) (bs yao) = hp at *
 generalize ygu (trimPrefix (bs t) (bs yao)) = nr at *
 generalize yaf (trimPrefix (bs t) (bs yao)) = q at *
 clear hg
 cases hp with
 |false =>
  have e : R = none := HR.out
  subst e
  generalize (nr.getD 0 : Nat) = nv at *
  generalize nr.isSome = nb at *
  go_enter Tryz.func80, Tryz.ntmps80
  go_wp2_with (first
   |(go_at_call 143; refine (CP.out).mono ?_; rintro e w ⟨rfl, rfl⟩)
   |(go_at_call 144; refine (RN.out).mono ?_; rintro e w1 ⟨rfl, hb⟩))
  go_ret2
  exact ⟨rfl, hb⟩
 |true =>
  cases nr with
  |none =>
   have e : R = none := HR.out
   subst e
   simp only [Option.getD_none, Option.isSome_none] at RN
   go_enter Tryz.func80, Tryz.ntmps80
   go_wp2_with (first
    |(go_at_call 143; refine (CP.out).mono ?_; rintro e w ⟨rfl, rfl⟩)
    |(go_at_call 144; refine (RN.out).mono ?_; rintro e w1 ⟨rfl, hb⟩))
   go_ret2
   exact ⟨rfl, hb⟩
  |some n =>
   have hn9 := HN.out n rfl
   simp only [Option.getD_some, Option.isSome_some] at RN
   by_cases hn : 1 ≤ n ∧ n ≤ 6
   ·have e : R = some n := by rw [HR.out]; simp [hn.1, hn.2]
    subst e
    have NW : Hid (∀ W, Calls Tryz.prog 25 #[.int .i64 n] W fun e w' => e = .returned (.tuple #[.pointer (some ⟨W.heap.size, 0, none⟩), .int .i64 0]) ∧ ∃ pb L, Nt w' W.heap.size pb L (ykw n) ∧ L.length = n ∧ W.heap.size ≤ pb ∧ (∀ x ∈ L, W.heap.size ≤ x.1 ∧ W.heap.size ≤ x.2) ∧ Below W.heap.size W w') := fun W => nnew_any n W hn.1 hn.2
    go_enter Tryz.func80, Tryz.ntmps80
    go_wp2_with (first
     |(go_at_call 143; refine (CP.out).mono ?_; rintro e w ⟨rfl, rfl⟩)
     |(go_at_call 144; refine (RN.out).mono ?_; rintro e w1 ⟨rfl, hb⟩; have HB := yab hb; clear hb)
     |(go_at_call 25; refine (NW.out w1).mono ?_; rintro e w2 ⟨rfl, pb, L, hP, _, hm, _, hb2⟩; have HP := yab hP; have HM := yab hm; have HB2 := yab hb2; clear hP hm hb2))
    go_ret2
    exact ⟨⟨_, pb, L, rfl, HP.out, HB.out.size, Nat.le_trans HB.out.size HM.out⟩, yec HB.out HB2.out⟩
   ·have e : R = none := by rw [HR.out]; simp; omega
    subst e
    have NW : Hid (∀ W, Calls Tryz.prog 25 #[.int .i64 n] W fun e w' => e = .returned (.tuple #[.pointer none, .int .i64 1]) ∧ w' = W) := fun W => netNew_bad n W (by omega)
    go_enter Tryz.func80, Tryz.ntmps80
    go_wp2_with (first
     |(go_at_call 143; refine (CP.out).mono ?_; rintro e w ⟨rfl, rfl⟩)
     |(go_at_call 144; refine (RN.out).mono ?_; rintro e w1 ⟨rfl, hb⟩; have HB := yab hb; clear hb)
     |(go_at_call 25; refine (NW.out w1).mono ?_; rintro e w2 ⟨rfl, rfl⟩))
    go_ret2
    exact ⟨rfl, HB.out⟩
structure NV (w wr : World) (nb pb n : Nat) (rbs mbs : List Nat) (acc : List DR) : Prop where
 bel : Below w.heap.size w wr
 blk : ∃ cap, wr.heap[nb]? = some (.cells #[.slice (some ⟨pb, 0, none⟩) n cap] 97 (0, 0))
 here : ∀ j, j < n → (wr.cell? ⟨pb, j, none⟩).isSome = true
 fz : ∀ j, wr.frozen? ⟨pb, j, none⟩ = false
 gp : w.heap.size ≤ pb
 lp : pb < wr.heap.size
 ne : nb ≠ pb
 rl : rbs.length = acc.length
 ml : mbs.length = acc.length
 row : ∀ (r b : Nat), rbs[r]? = some b → wr.cell? ⟨pb, r, none⟩ = some (.pointer (some ⟨b, 0, none⟩))
 rep : ∀ (r rb mb : Nat) d, rbs[r]? = some rb → mbs[r]? = some mb → acc[r]? = some d → Rp wr rb r (lfn d.com) mb (toE d.recs) ∧ rb ≠ pb ∧ mb ≠ pb
 n6 : n ≤ 6
 gn : w.heap.size ≤ nb
 gr : ∀ b ∈ rbs ++ mbs, w.heap.size ≤ b ∧ b < wr.heap.size
 nd : (rbs ++ mbs).Nodup
 pk : ∃ cur, wr.heap[pb]? = some (.cells cur 92 (0, 0))
section
variable {w wr w2 : World} {nb pb n : Nat} {rbs mbs : List Nat} {acc : List DR}
theorem NV.ln (h : NV w wr nb pb n rbs mbs acc) : nb < wr.heap.size := by
 obtain ⟨cap, hb⟩ := h.blk
 exact (Array.getElem?_eq_some_iff.1 hb).1
theorem NV.more (h : NV w wr nb pb n rbs mbs acc) (hb : Below wr.heap.size wr w2) : NV w w2 nb pb n rbs mbs acc := by
 have hc : ∀ j, w2.cell? ⟨pb, j, none⟩ = wr.cell? ⟨pb, j, none⟩ := fun j => hb.cell (p := ⟨pb, j, none⟩) h.lp
 refine ⟨h.bel.trans (hb.mono h.bel.size), ?_, fun j hj => by rw [hc]; exact h.here j hj, fun j => (hb.frozen (p := ⟨pb, j, none⟩) h.lp).trans (h.fz j), h.gp, Nat.lt_of_lt_of_le h.lp hb.size, h.ne, h.rl, h.ml, fun r b hr => by rw [hc]; exact h.row r b hr, fun r rb mb d a b c => ?_, h.n6, h.gn, fun b hq => ⟨(h.gr b hq).1, Nat.lt_of_lt_of_le (h.gr b hq).2 hb.size⟩, h.nd, h.pk.imp fun cur q => by rw [hb.block pb h.lp]; exact q⟩
 ·obtain ⟨cap, q⟩ := h.blk
  exact ⟨cap, by rw [hb.block nb h.ln]; exact q⟩
 ·obtain ⟨q1, q2⟩ := h.rep r rb mb d a b c
  exact ⟨q1.below hb, q2⟩
theorem NV.put (h : NV w wr nb pb n rbs mbs acc) (hi : acc.length < n) {rb mb : Nat} {d : DR} (hr : Rp wr rb acc.length (lfn d.com) mb (toE d.recs)) (h1 : rb ≠ pb) (h2 : mb ≠ pb) (hfr : ∀ b ∈ rbs ++ mbs, b < rb ∧ b < mb) (hlo : w.heap.size ≤ rb ∧ w.heap.size ≤ mb) : NV w (wr.setCell ⟨pb, acc.length, none⟩ (.pointer (some ⟨rb, 0, none⟩))) nb pb n (rbs ++ [rb]) (mbs ++ [mb]) (acc ++ [d]) := by
 have hk : ∀ k, k ≠ pb → (wr.setCell ⟨pb, acc.length, none⟩ (.pointer (some ⟨rb, 0, none⟩))).heap[k]? = wr.heap[k]? := fun k hk => ybn (by simp only; exact hk)
 have hkeep : ∀ {rb' mb' r' : Nat} {c' : Nat → Int} {E' : yau}, Rp wr rb' r' c' mb' E' → rb' ≠ pb → mb' ≠ pb → Rp (wr.setCell ⟨pb, acc.length, none⟩ (.pointer (some ⟨rb, 0, none⟩))) rb' r' c' mb' E' := fun q a b => q.keep (hk _ a) (hk _ b)
 have hsz : (wr.setCell ⟨pb, acc.length, none⟩ (.pointer (some ⟨rb, 0, none⟩))).heap.size = wr.heap.size := by simp [World.setCell]
 obtain ⟨u, hu⟩ := Option.isSome_iff_exists.1 (h.here acc.length hi)
 have same : (wr.setCell ⟨pb, acc.length, none⟩ (.pointer (some ⟨rb, 0, none⟩))).cell? ⟨pb, acc.length, none⟩ = some (.pointer (some ⟨rb, 0, none⟩)) := World.cell?_setCell_same _ _ _ hu
 have other : ∀ j, j ≠ acc.length → (wr.setCell ⟨pb, acc.length, none⟩ (.pointer (some ⟨rb, 0, none⟩))).cell? ⟨pb, j, none⟩ = wr.cell? ⟨pb, j, none⟩ := fun j hj => World.cell?_setCell_other _ _ _ _ (by simp <;> omega)
 refine ⟨?_, ?_, fun j hj => ?_, fun j => by rw [World.frozen?_setCell]; exact h.fz j, h.gp, by rw [hsz]; exact h.lp, h.ne, by simp [h.rl], by simp [h.ml], fun r b hr' => ?_, fun r rb' mb' d' a b c => ?_, h.n6, h.gn, fun b hq => ?_, ?_, ?_⟩
 ·have := Below.setCells h.bel h.gp [.pointer (some ⟨rb, 0, none⟩)] acc.length
  exact this
 ·obtain ⟨cap, q⟩ := h.blk
  exact ⟨cap, by rw [hk nb h.ne]; exact q⟩
 ·by_cases e : j = acc.length
  ·rw [e, same]; rfl
  ·rw [other j e]; exact h.here j hj
 ·by_cases e : r = acc.length
  ·subst e
   rw [List.getElem?_append_right (by rw [h.rl]; exact Nat.le_refl _), h.rl] at hr'
   simp at hr'
   rw [same, hr']
  ·have hlt : r < rbs.length := by
    have := (List.getElem?_eq_some_iff.1 hr').1
    simp at this
    have := h.rl
    omega
   rw [List.getElem?_append_left hlt] at hr'
   rw [other r e]
   exact h.row r b hr'
 ·by_cases e : r = acc.length
  ·subst e
   rw [List.getElem?_append_right (by rw [h.rl]; exact Nat.le_refl _), h.rl] at a
   rw [List.getElem?_append_right (by rw [h.ml]; exact Nat.le_refl _), h.ml] at b
   rw [List.getElem?_append_right (Nat.le_refl _)] at c
   simp at a b c
   subst a b c
   exact ⟨hkeep hr h1 h2, h1, h2⟩
  ·have hlt : r < acc.length := by
    have := (List.getElem?_eq_some_iff.1 c).1
    simp at this
    omega
   rw [List.getElem?_append_left (by rw [h.rl]; exact hlt)] at a
   rw [List.getElem?_append_left (by rw [h.ml]; exact hlt)] at b
   rw [List.getElem?_append_left hlt] at c
   obtain ⟨q1, q2, q3⟩ := h.rep r rb' mb' d' a b c
   exact ⟨hkeep q1 q2 q3, q2, q3⟩
 ·rw [hsz]
  have hin : b ∈ rbs ++ mbs ∨ b = rb ∨ b = mb := by
   simp only [List.mem_append, List.mem_cons, List.not_mem_nil, or_false] at hq ⊢
   rcases hq with (q | q) | (q | q)
   ·exact .inl (.inl q)
   ·exact .inr (.inl q)
   ·exact .inl (.inr q)
   ·exact .inr (.inr q)
  rcases hin with q | rfl | rfl
  ·exact h.gr b q
  ·exact ⟨hlo.1, hr.rep.lt⟩
  ·exact ⟨hlo.2, hr.own.lt⟩
 ·have hne : rb ≠ mb := by
   intro e
   obtain ⟨es, clock, hm, _⟩ := hr.own
   have := hr.rep.blk
   rw [e, hm] at this
   simp at this
  have hnd := h.nd
  rw [List.nodup_append] at hnd ⊢
  obtain ⟨a1, a2, a3⟩ := hnd
  refine ⟨?_, ?_, ?_⟩
  ·rw [List.nodup_append]
   exact ⟨a1, by simp, fun x hx y hy => by simp at hy; subst hy; have := (hfr x (List.mem_append.2 (.inl hx))).1; omega⟩
  ·rw [List.nodup_append]
   exact ⟨a2, by simp, fun x hx y hy => by simp at hy; subst hy; have := (hfr x (List.mem_append.2 (.inr hx))).2; omega⟩
  ·intro x hx y hy
   rw [List.mem_append] at hx hy
   rcases hx with hx | hx <;> rcases hy with hy | hy
   ·exact a3 x hx y hy
   ·simp at hy; subst hy; have := (hfr x (List.mem_append.2 (.inl hx))).2; omega
   ·simp at hx; subst hx; have := (hfr y (List.mem_append.2 (.inr hy))).1; omega
   ·simp at hx hy; subst hx hy; exact hne
 ·obtain ⟨cur, q⟩ := h.pk
  exact ⟨cur.setIfInBounds acc.length (.pointer (some ⟨rb, 0, none⟩)), by simp [World.setCell, Array.getElem?_modify, q]⟩
theorem NV.net (h : NV w wr nb pb n rbs mbs acc) (hl : acc.length = n) : UNet wr nb pb rbs mbs acc :=
 ⟨⟨by rw [hl]; exact h.blk, h.rl, h.row, by rw [hl]; exact h.n6⟩, h.ml, fun r rb mb d a b c => (h.rep r rb mb d a b c).1, h.ln, h.lp⟩
theorem NV.start {L : List (Nat × Nat)} (h : Nt wr nb pb L (ykw n)) (hb : Below w.heap.size w wr) (h1 : w.heap.size ≤ nb) (h2 : w.heap.size ≤ pb) : NV w wr nb pb n [] [] [] := by
 have hn : (ykw n).length = n := by simp [ykw]
 have hl := h.len
 have hnd := h.apart
 rw [List.nodup_cons] at hnd
 obtain ⟨cur, hc⟩ := h.pbk
 have hk := h.net.blk
 have h6 := h.net.n6
 rw [hn] at hk h6
 refine ⟨hb, hk, fun j hj => ?_, fun j => by simp [World.frozen?, hc], h2, h.plt, fun e => hnd.1 (by rw [e]; simp), rfl, rfl, by simp, by simp, h6, h1, by simp, by simp, ⟨cur, hc⟩⟩
 have hj' : j < (L.map (·.1)).length := by rw [List.length_map, hl, hn]; exact hj
 rw [h.net.row j _ (List.getElem?_eq_getElem hj')]
 rfl
theorem NV.nt (h : NV w wr nb pb n rbs mbs acc) (hl : acc.length = n) (hok : ∀ d ∈ acc, d.ok n) (hr : ∀ d ∈ acc, d.recs.length < 1000000) : Nt wr nb pb (rbs.zip mbs) (acc.map fun d => ⟨lfn d.com, toE d.recs⟩) := by
 have hlen : rbs.length = mbs.length := by rw [h.rl, h.ml]
 have m1 : (rbs.zip mbs).map (fun x => x.1) = rbs := List.map_fst_zip (by omega)
 have m2 : (rbs.zip mbs).map (fun x => x.2) = mbs := List.map_snd_zip (by omega)
 have at_ : ∀ b ∈ rbs, ∃ i c mb E, Rp wr b i c mb E ∧ b ≠ pb := fun b hb => by
  obtain ⟨i, hi, e⟩ := List.getElem_of_mem hb
  have a1 : rbs[i]? = some b := by rw [List.getElem?_eq_getElem hi, e]
  have i2 : i < mbs.length := by omega
  have i3 : i < acc.length := by have := h.rl; omega
  obtain ⟨q1, q2, _⟩ := h.rep i b _ _ a1 (List.getElem?_eq_getElem i2) (List.getElem?_eq_getElem i3)
  exact ⟨_, _, _, _, q1, q2⟩
 have atm : ∀ b ∈ mbs, ∃ rb i c E, Rp wr rb i c b E ∧ b ≠ pb := fun b hb => by
  obtain ⟨i, hi, e⟩ := List.getElem_of_mem hb
  have a1 : mbs[i]? = some b := by rw [List.getElem?_eq_getElem hi, e]
  have i2 : i < rbs.length := by omega
  have i3 : i < acc.length := by have := h.ml; omega
  obtain ⟨q1, _, q2⟩ := h.rep i _ b _ (List.getElem?_eq_getElem i2) a1 (List.getElem?_eq_getElem i3)
  exact ⟨_, _, _, _, q1, q2⟩
 obtain ⟨cap, hbk⟩ := h.blk
 refine ⟨⟨⟨cap, by rw [List.length_map, hl]; exact hbk⟩, by rw [m1, List.length_map, h.rl], fun r b hb => h.row r b (by rw [← m1]; exact hb), by rw [List.length_map, hl]; exact h.n6⟩, fun i x s hx hs => ?_, h.ln, h.lp, ?_, h.pk⟩
 ·rw [List.getElem?_map, Option.map_eq_some_iff] at hs
  obtain ⟨d, hd, rfl⟩ := hs
  have a1 : rbs[i]? = some x.1 := by rw [← m1, List.getElem?_map, hx]; rfl
  have a2 : mbs[i]? = some x.2 := by rw [← m2, List.getElem?_map, hx]; rfl
  obtain ⟨q, _, _⟩ := h.rep i _ _ d a1 a2 hd
  have hm := List.mem_of_getElem? hd
  have ho := hok d hm
  have h6 := h.n6
  refine ⟨q.rep, q.own, q.ris, fun y hy => ?_, ?_, ?_⟩
  ·obtain ⟨z, hz, rfl⟩ := List.mem_map.1 hy
   have hzo := ho.recs.oks z hz
   refine ⟨Int.natCast_nonneg _, z.2.by_, ?_, rfl⟩
   cases ht : z.2.there with
   |true => have := (hzo.yes ht).1; omega
   |false => rw [(hzo.none ht).1]; omega
  ·show (toE d.recs).length < 1000000
   unfold toE
   rw [List.length_map]
   exact hr d hm
  ·exact Int.natCast_nonneg _
 ·rw [m1, m2]
  refine List.nodup_cons.2 ⟨fun q => ?_, List.nodup_cons.2 ⟨fun q => ?_, h.nd⟩⟩
  ·rcases List.mem_cons.1 q with e | q
   ·exact h.ne e
   ·rcases List.mem_append.1 q with q | q
    ·obtain ⟨i, c, mb, E, hR, _⟩ := at_ nb q
     have := hR.rep.blk
     rw [hbk] at this
     simp at this
    ·obtain ⟨rb, i, c, E, hR, _⟩ := atm nb q
     obtain ⟨es, clock, hm, _⟩ := hR.own
     rw [hbk] at hm
     simp at hm
  ·rcases List.mem_append.1 q with q | q
   ·obtain ⟨_, _, _, _, _, q2⟩ := at_ pb q
    exact q2 rfl
   ·obtain ⟨_, _, _, _, _, q2⟩ := atm pb q
    exact q2 rfl
end
end Go.Proofs.K

namespace Go.Proofs.K
open Go.RowKit Go.Lib Go.Maps
def NAnsV (A : Option (List DR)) (w w' : World) (e : Ending) : Prop := match A with
 |none => ∃ v, e = .returned (.tuple #[v, .bool false])
 |some m => ∃ nb pb rbs mbs, e = .returned (.tuple #[.pointer (some ⟨nb, 0, none⟩), .bool true]) ∧ NV w w' nb pb m.length rbs mbs m
theorem netV_any (t : ByteArray) (ht : t.size ≤ 10000000) (w : World) (hg : yez w) :
  Calls Tryz.prog 43 #[.string t] w fun e w' => NAnsV (yvy t) w w' e ∧ Below w.heap.size w w' := by
 have US := yab (Unseal_any t ht w hg)
 cases hu : yin t with
 |none =>
  have en : yvy t = none := by unfold yvy; rw [hu]; rfl
  rw [hu] at US
  simp only [Option.isSome_none] at US
  rw [en]
  generalize yaf ((none : Option Bs).getD []) = bd at *
  clear hg hu en
  go_enter Tryz.func43, Tryz.ntmps43
  go_wp2_with (go_at_call 78; refine US.out.mono ?_; rintro e w1 ⟨rfl, hb1⟩)
  go_ret2
  exact ⟨⟨_, rfl⟩, hb1⟩
 |some b =>
  rw [hu] at US
  simp only [Option.isSome_some, Option.getD_some] at US
  have hbl : b.length ≤ 10000000 := by
   have := (ylc t b).1 hu
   have h2 := congrArg List.length this.1
   rw [yax] at h2
   simp at h2
   omega
  have hln := yhr 10 b
  have CU : Hid (∀ W, Below w.heap.size w W → Calls Tryz.prog 79 #[.string (yaf b), .string ⟨#[10]⟩] W fun e w' => (∃ f, e = .returned (.tuple #[.string (yaf (ydb b)), .string (yaf (ybi b)), .bool f])) ∧ Below w.heap.size w w') := fun W hW => by
   have := cut_any 10 (yaf b) (by rw [yal]; exact hbl) W (hg.below hW)
   rw [yah] at this
   refine this.mono ?_
   rintro e w' ⟨rfl, q, rfl⟩
   exact ⟨⟨_, rfl⟩, ycw hW q⟩
  have BG : Hid (∀ W, Below w.heap.size w W → Calls Tryz.prog 80 #[.string (yaf (ydb b))] W fun e w' => (match yua (ydb b) with
   |none => e = .returned (.tuple #[.pointer none, .bool false])
   |some n => ∃ nb P, e = .returned (.tuple #[.pointer (some ⟨nb, 0, none⟩), .bool true]) ∧ NV w w' nb P n [] [] []) ∧ Below w.heap.size w w') := fun W hW => by
   have := beginN_any (yaf (ydb b)) (by rw [yal]; unfold ydb; omega) W (hg.below hW)
   rw [yah] at this
   refine this.mono ?_
   rintro e w' ⟨hA, hb'⟩
   have hb2 := hW.trans (hb'.mono hW.size)
   refine ⟨?_, hb2⟩
   cases hh : yua (ydb b) with
   |none => rw [hh] at hA; exact hA
   |some n =>
    rw [hh] at hA
    obtain ⟨nb, pb, L, e1, e2, e3, e4⟩ := hA
    exact ⟨nb, pb, e1, NV.start e2 hb2 (Nat.le_trans hW.size e3) (Nat.le_trans hW.size e4)⟩
  cases hh : yua (ydb b) with
  |none =>
   have en : yvy t = none := by unfold yvy; rw [hu]; simp only [Option.bind_some]; rw [hh]; rfl
   rw [en]
   rw [hh] at BG
   generalize yaf b = bd at *
   generalize yaf (ydb b) = ls at *
   generalize yaf (ybi b) = rs at *
   clear hg hu en hh
   go_enter Tryz.func43, Tryz.ntmps43
   go_wp2_with (first
    |(go_at_call 78; refine US.out.mono ?_; rintro e w1 ⟨rfl, hb1⟩; have H1 := yab hb1; clear hb1)
    |(go_at_call 79; refine (CU.out _ H1.out).mono ?_; rintro e w2 ⟨⟨f, rfl⟩, hb2⟩; have H2 := yab hb2; clear hb2)
    |(go_at_call 80; refine (BG.out _ H2.out).mono ?_; rintro e w3 ⟨rfl, hb3⟩; have H3 := yab hb3; clear hb3))
   go_ret2
   exact ⟨⟨_, rfl⟩, H3.out⟩
  |some n =>
   obtain ⟨h1, h6, _⟩ := (ypd _ n).1 hh
   have en : yvy t = (yla n n 0 (ybi b)).bind fun x => if x.1 = [] ∧ x.2.all (inB (ylf x.2)) = true then some x.2 else none := by unfold yvy; rw [hu]; simp only [Option.bind_some]; rw [hh]; rfl
   rw [hh] at BG
   have hrl : (yaf (ybi b)).size ≤ 10000000 := by rw [yal]; unfold ybi; omega
   have e0 : yla n n 0 (ybi b) = (yla n (n - 0) 0 (bs (yaf (ybi b)))).map (fun y => (y.1, ([] : List DR) ++ y.2)) := by
    rw [yah, Nat.sub_zero]
    cases yla n n 0 (ybi b) <;> simp
   have GL : Hid (∀ W, Below w.heap.size w W → yez W) := fun W hW => hg.below hW
   generalize yaf (ydb b) = ls at *
   generalize hA0 : yla n n 0 (ybi b) = A0 at *
   generalize yaf b = bd at *
   generalize yaf (ybi b) = rs at *
   generalize yvy t = NR at *
   have E0 := yab e0
   have EN := yab en
   clear hg hu hh en e0 hA0
   go_enter Tryz.func43, Tryz.ntmps43
   go_wp2_with (first
    |(go_at_call 78; refine US.out.mono ?_; rintro e w1 ⟨rfl, hb1⟩; have H1 := yab hb1; clear hb1)
    |(go_at_call 79; refine (CU.out _ H1.out).mono ?_; rintro e w2 ⟨⟨f, rfl⟩, hb2⟩; have H2 := yab hb2; clear hb2)
    |(go_at_call 80; refine (BG.out _ H2.out).mono ?_; rintro e w3 ⟨⟨nb, pb, rfl, hN⟩, _⟩; have N3 := yab hN; obtain ⟨cap, hblk⟩ := hN.blk; have c3 : w3.cell? ⟨nb, 0, none⟩ = some (.slice (some ⟨pb, 0, none⟩) n cap) := (by simp [World.cell?, hblk]); clear hN hblk))
   go_loopw [7, 38] (fun tv iv wr => ∃ (i : Nat) (x : ByteArray) (rbs mbs : List Nat) (acc : List DR), i ≤ n ∧ iv = .int .i64 i ∧ tv = .string x ∧ Hid (NV w wr nb pb n rbs mbs acc) ∧ Hid (acc.length = i ∧ x.size ≤ 10000000 ∧ A0 = (yla n (n - i) i (bs x)).map (fun y => (y.1, acc ++ y.2)) ∧ ∀ d ∈ acc, d.recs.length ≤ 10000000)) (fun _ iv _ => n - (Go.RowKit.intOf iv).toNat)
   case atStart => exact ⟨0, rs, [], [], [], Nat.zero_le _, rfl, rfl, N3, rfl, hrl, E0.out, fun d hd => by simp at hd⟩
   case round =>
    obtain ⟨i, x, rbs, mbs, acc, hi, rfl, rfl, hN, hE⟩ := hrel
    clear N3 c3 US CU BG E0
    by_cases hlt : i < n
    ·have ND : Hid (NV w wr.drew nb pb n rbs mbs acc) := hN.out.more ⟨rfl, rfl, rfl, Nat.le_refl _, fun _ _ => rfl⟩
     have LR := yab (ytm x hE.out.2.1 i (by omega) n h1 h6 wr.drew (GL.out _ ND.out.bel))
     obtain ⟨cap', hblk⟩ := hN.out.blk
     have c0 : wr.cell? ⟨nb, 0, none⟩ = some (.slice (some ⟨pb, 0, none⟩) n cap') := by simp [World.cell?, hblk]
     have C2 : Hid (∀ w2, Below wr.drew.heap.size wr.drew w2 → w2.cell? ⟨nb, 0, none⟩ = some (.slice (some ⟨pb, 0, none⟩) n cap') ∧ w2.cell? ⟨pb, i, none⟩ = some (cv w2 pb i) ∧ w2.frozen? ⟨pb, i, none⟩ = false ∧ NV w w2 nb pb n rbs mbs acc) := fun w2 hb2 => by
      have N2 := ND.out.more hb2
      refine ⟨?_, cv_eq (N2.here i hlt), N2.fz i, N2⟩
      rw [hb2.cell (p := ⟨nb, 0, none⟩) ND.out.ln]
      exact c0
     have hi0 : (0 : Int) ≤ (i : Int) := by omega
     have hin : (i : Int) < (n : Int) := by omega
     clear hblk
     cases hrp : yrl n i (bs x) with
     |none =>
      have ea : A0 = none := by
       rw [hE.out.2.2.1, show n - i = (n - i - 1) + 1 by omega]
       unfold yla
       rw [hrp]
       rfl
      have eb : NR = none := by rw [EN.out, ea]; rfl
      rw [hrp] at LR
      have PB : Hid (∀ w2, NV w w2 nb pb n rbs mbs acc → NAnsV NR w (w2.setCell ⟨pb, i, none⟩ (.pointer none)) (.returned (.tuple #[.pointer none, .bool false])) ∧ Below w.heap.size w (w2.setCell ⟨pb, i, none⟩ (.pointer none))) := fun w2 hN2 => by
       rw [eb]
       exact ⟨⟨_, rfl⟩, Below.setCells hN2.bel hN2.gp [.pointer none] i⟩
      clear ea eb hrp EN hE
      go_wp2_with fail
      go_region_law (first
       |(go_simp; go_at_call 81; refine LR.out.mono ?_; rintro e w2 ⟨hA, hb2⟩; obtain rfl := hA; obtain ⟨q0, q1, q2, hN2⟩ := C2.out w2 hb2; have N2 := yab hN2; clear hN2 hb2; dsimp only))
      all_goals
       go_wp2
       go_ret2
       exact PB.out w2 N2.out
     |some y =>
      obtain ⟨R, d⟩ := y
      obtain ⟨l1, l2⟩ := repR_len n i h1 h6 _ _ hrp
      simp only at l1 l2
      rw [yax] at l1 l2
      rw [hrp] at LR
      have NX : Hid (∀ (w2 : World) (rb mb : Nat), NV w w2 nb pb n rbs mbs acc → Rp w2 rb i (lfn d.com) mb (toE d.recs) → wr.drew.heap.size ≤ rb → wr.drew.heap.size ≤ mb → NV w (w2.setCell ⟨pb, i, none⟩ (.pointer (some ⟨rb, 0, none⟩))) nb pb n (rbs ++ [rb]) (mbs ++ [mb]) (acc ++ [d])) := fun w2 rb mb hN2 hR hr hm => by
       have hp := ND.out.lp
       have hz := ND.out.bel.size
       have := hN2.put (by rw [hE.out.1]; exact hlt) (by rw [hE.out.1]; exact hR) (by omega) (by omega) (fun b hb => by have := (ND.out.gr b hb).2; omega) ⟨by omega, by omega⟩
       rw [hE.out.1] at this
       exact this
      have EX : Hid ((acc ++ [d]).length = i + 1 ∧ (yaf R).size ≤ 10000000 ∧ A0 = (yla n (n - (i + 1)) (i + 1) (bs (yaf R))).map (fun y => (y.1, (acc ++ [d]) ++ y.2)) ∧ ∀ d' ∈ acc ++ [d], d'.recs.length ≤ 10000000) := by
       obtain ⟨e1, e2, e3, e4⟩ := hE.out
       refine ⟨by simp [e1], by rw [yal]; omega, ?_, fun d' hd => ?_⟩
       ·rw [e3, show n - i = (n - (i + 1)) + 1 by omega]
        conv => lhs; unfold yla
        rw [hrp, yah]
        simp only [Option.bind_some]
        rw [Option.map_map]
        congr 1
        funext y
        simp
       ·rcases List.mem_append.1 hd with hd | hd
        ·exact e4 d' hd
        ·simp only [List.mem_singleton] at hd
         rw [hd]
         omega
      clear hrp EN hE l1 l2
      go_wp2_with fail
      go_region_law (first
       |(go_simp; go_at_call 81; refine LR.out.mono ?_; rintro e w2 ⟨⟨rb, mb, rfl, hR, hr1, hm1⟩, hb2⟩; obtain ⟨q0, q1, q2, hN2⟩ := C2.out w2 hb2; have N2 := yab (NX.out w2 rb mb hN2 hR hr1 hm1); clear hN2 hb2 hR hr1 hm1; dsimp only))
      all_goals
       go_wp2
       go_roundw
       case rel => exact ⟨i + 1, _, _, _, _, by omega, by go_num, rfl, N2, EX⟩
       case measure => simp [Go.RowKit.intOf]; omega
    ·have ei : i = n := by omega
     subst ei
     obtain ⟨e1, e2, e3, e4⟩ := hE.out
     have ea : A0 = some (bs x, acc) := by
      rw [e3, Nat.sub_self]
      unfold yla
      simp
     have UN := yab (hN.out.net e1)
     have E1 := yab e1
     have IW := yab (yjf nb pb rbs mbs acc wr UN.out (by omega) (by omega) (fun d hd => by have := e4 d hd; omega))
     rw [ea] at EN
     have en : NR = if bs x = [] ∧ acc.all (inB (ylf acc)) = true then some acc else none := EN.out
     clear hE e3 ea EN
     by_cases hx : bs x = []
     ·have hq : (x.toList == []) = true := by rw [ByteArray.toList_eq]; show (bs x == []) = true; rw [hx]; rfl
      cases hz : acc.all (inB (ylf acc)) with
      |true =>
       have HR : Hid (NR = some acc) := by unfold Hid; rw [en, if_pos ⟨hx, hz⟩]
       rw [hz] at IW
       clear en hx hz
       go_wp2_with (go_at_call 82; refine IW.out.mono ?_; rintro e w6 ⟨rfl, hb6⟩; have H6 := yab hb6; clear hb6)
       go_ret2
       rw [HR.out]
       have e1' := E1.out
       subst e1'
       exact ⟨⟨nb, pb, rbs, mbs, rfl, hN.out.more H6.out⟩, hN.out.bel.trans (H6.out.mono hN.out.bel.size)⟩
      |false =>
       have HR : Hid (NR = none) := by unfold Hid; rw [en, if_neg (by rw [hz]; simp)]
       rw [hz] at IW
       clear en hx hz
       go_wp2_with (go_at_call 82; refine IW.out.mono ?_; rintro e w6 ⟨rfl, hb6⟩; have H6 := yab hb6; clear hb6)
       go_ret2
       rw [HR.out]
       exact ⟨⟨_, rfl⟩, hN.out.bel.trans (H6.out.mono hN.out.bel.size)⟩
     ·have hq : (x.toList == []) = false := by
       rw [ByteArray.toList_eq]
       show (bs x == []) = false
       simpa using hx
      have HR : Hid (NR = none) := by unfold Hid; rw [en, if_neg (fun q => hx q.1)]
      clear en hx
      go_wp2
      go_ret2
      rw [HR.out]
      exact ⟨⟨_, rfl⟩, hN.out.bel⟩
def UAnsV (A : Option (List DR)) (w w' : World) (e : Ending) : Prop := match A with
 |none => e = .returned (.tuple #[.pointer none, .int .i64 7])
 |some m => ∃ nb pb rbs mbs, e = .returned (.tuple #[.pointer (some ⟨nb, 0, none⟩), .int .i64 0]) ∧ NV w w' nb pb m.length rbs mbs m
theorem UnpackV_any (t : ByteArray) (ht : t.size ≤ 10000000) (w : World) (hg : yez w) :
  Calls Tryz.prog 21 #[.string t] w fun e w' => UAnsV (yvy t) w w' e ∧ Below w.heap.size w w' := by
 have NE := yab (netV_any t ht w hg)
 clear hg
 cases hn : yvy t with
 |none =>
  rw [hn] at NE
  go_enter Tryz.func21, Tryz.ntmps21
  go_wp2_with (go_at_call 43; refine NE.out.mono ?_; rintro e w1 ⟨⟨v, rfl⟩, hb1⟩)
  go_ret2
  exact ⟨rfl, hb1⟩
 |some m =>
  rw [hn] at NE
  go_enter Tryz.func21, Tryz.ntmps21
  go_wp2_with (go_at_call 43; refine NE.out.mono ?_; rintro e w1 ⟨⟨nb, pb, rbs, mbs, rfl, hU⟩, hb1⟩; have U1 := yab hU; clear hU)
  go_ret2
  exact ⟨⟨nb, pb, rbs, mbs, rfl, U1.out⟩, hb1⟩
end Go.Proofs.K
