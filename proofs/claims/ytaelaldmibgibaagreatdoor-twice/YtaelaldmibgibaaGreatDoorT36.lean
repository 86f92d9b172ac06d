/- A new record beside a replica's. The program's net: New. A file that was in conflict is settled. Is there room for a file of this record? A replica while a conflict is ended: two records beside the one that is changed. A replica of the program's: Resolve. -/
import Derived.Test.YtaelaldmibgibaaGreatDoorT35
import Derived.Test.YtaelaldmibgibaaGreatDoorT20
import Derived.Test.YtaelaldmibgibaaGreatDoorT05
import Derived.Test.YtaelaldmibgibaaGreatDoorT18
import Derived.Outline
import Derived.Test.YtaelaldmibgibaaGreatDoorT10

set_option linter.unusedVariables false
set_option linter.unusedSimpArgs false
set_option linter.unusedSectionVars false
set_option maxHeartbeats 6000000
set_option maxRecDepth 100000

namespace Go.Proofs.YtaelaldmibgibaaGreatDoor
open Go.RowKit Go.Maps
theorem room_any (rb s : Nat) (cm : Nat → Int) (mb : Nat) (E : yat) (w : World) (h : Rg w rb s cm mb E) (R : Rec) :
  Calls Tryz.prog 106 #[.pointer (some ⟨rb, 0, none⟩), yae R] w fun e w' => e = .returned (.bool (noRoom R E)) ∧ Below w.heap.size w w' := by
 have B1 := yac ((Below.refl w.heap.size w).alloc (Nat.le_refl _) (.cells #[.string R.text, .int .i64 R.br, .int .i64 R.bn, .int .i64 (R.ch 0), .int .i64 (R.ch 1), .int .i64 (R.ch 2), .int .i64 (R.ch 3), .int .i64 (R.ch 4), .int .i64 (R.ch 5), .int .i64 (R.kn 0), .int .i64 (R.kn 1), .int .i64 (R.kn 2), .int .i64 (R.kn 3), .int .i64 (R.kn 4), .int .i64 (R.kn 5)] 197))
 have FI : Hid (∀ V, Below w.heap.size w V → Calls Tryz.prog 129 #[.pointer (some ⟨rb, 0, none⟩)] V fun e w' => e = .returned (.int .i64 (ycl E).length) ∧ Below w.heap.size w w') := fun V hb => by
  have h' := h.below hb
  refine (yhy rb s cm mb V h'.rep E h'.ris (by have := h'.len; omega) h'.own).mono ?_
  rintro e w' ⟨rfl, hb'⟩
  exact ⟨rfl, hb.trans (hb'.mono hb.size)⟩
 unfold yae noRoom
 clear h
 cases hd : decide (0 < R.bn)
 all_goals
  go_enter Tryz.func106, Tryz.ntmps106
  go_wp2_with (first
   |(go_at_call 113; refine (yav _ _ _ _ _ _ _ _ _ _).mono ?_; rintro e w3 ⟨rfl, hbr⟩; have B3 := yac (B1.out.trans (hbr.mono B1.out.size)); clear hbr)
   |(go_at_call 129; refine (FI.out _ B3.out).mono ?_; rintro e w4 ⟨rfl, hbr⟩; have B4 := yac hbr; clear hbr))
  go_ret
  exact ⟨rfl, by first | exact B4.out | exact B3.out⟩
theorem ylu (t f : Rec) (h0 : 0 ≤ t.bn) (hb : yfv t) (h0' : 0 ≤ f.bn) (hb' : yfv f) : 0 ≤ (yam t f).1.bn ∧ yfv (yam t f).1 := by
 unfold yam yfv at *
 (repeat' split) <;> first | exact ⟨h0, hb⟩ | exact ⟨h0', hb'⟩ | exact ⟨Int.le_refl 0, 0, by omega, rfl⟩
structure Pp (w V : World) (b : Nat) (R : Rec) : Prop where
 rc : yap V b R
 ge : w.heap.size ≤ b
 bel : Below w.heap.size w V
theorem Pp.more {w V V' : World} {b : Nat} {R : Rec} (h : Pp w V b R) (hb : Below V.heap.size V V') : Pp w V' b R := ⟨h.rc.more hb, h.ge, h.bel.trans (hb.mono h.bel.size)⟩
theorem Pp.drew {w V : World} {b : Nat} {R : Rec} (h : Pp w V b R) : Pp w V.drew b R := h.more ⟨rfl, rfl, rfl, Nat.le_refl _, fun _ _ => rfl⟩
theorem Pp.zero {w V : World} (hb : Below w.heap.size w V) : Pp w (V.alloc (.cells #[.string ⟨#[]⟩, .int .i64 0, .int .i64 0, .int .i64 0, .int .i64 0, .int .i64 0, .int .i64 0, .int .i64 0, .int .i64 0, .int .i64 0, .int .i64 0, .int .i64 0, .int .i64 0, .int .i64 0, .int .i64 0] 197)) V.heap.size rec0 := ⟨⟨heap_alloc_new _ _⟩, hb.size, hb.alloc hb.size _⟩
theorem yap.setAll {w : World} {b : Nat} {R : Rec} (h : yap w b R) (S : Rec) : yap (w.setCells b 0 [.string S.text, .int .i64 S.br, .int .i64 S.bn, .int .i64 (S.ch 0), .int .i64 (S.ch 1), .int .i64 (S.ch 2), .int .i64 (S.ch 3), .int .i64 (S.ch 4), .int .i64 (S.ch 5), .int .i64 (S.kn 0), .int .i64 (S.kn 1), .int .i64 (S.kn 2), .int .i64 (S.kn 3), .int .i64 (S.kn 4), .int .i64 (S.kn 5)]) b S := by
 constructor
 simp only [World.setCells]
 have h1 := heap_setCell_same w b 0 _ _ (.string S.text) h.blk
 have h2 := heap_setCell_same _ b 1 _ _ (.int .i64 S.br) h1
 have h3 := heap_setCell_same _ b 2 _ _ (.int .i64 S.bn) h2
 have h4 := heap_setCell_same _ b 3 _ _ (.int .i64 (S.ch 0)) h3
 have h5 := heap_setCell_same _ b 4 _ _ (.int .i64 (S.ch 1)) h4
 have h6 := heap_setCell_same _ b 5 _ _ (.int .i64 (S.ch 2)) h5
 have h7 := heap_setCell_same _ b 6 _ _ (.int .i64 (S.ch 3)) h6
 have h8 := heap_setCell_same _ b 7 _ _ (.int .i64 (S.ch 4)) h7
 have h9 := heap_setCell_same _ b 8 _ _ (.int .i64 (S.ch 5)) h8
 have h10 := heap_setCell_same _ b 9 _ _ (.int .i64 (S.kn 0)) h9
 have h11 := heap_setCell_same _ b 10 _ _ (.int .i64 (S.kn 1)) h10
 have h12 := heap_setCell_same _ b 11 _ _ (.int .i64 (S.kn 2)) h11
 have h13 := heap_setCell_same _ b 12 _ _ (.int .i64 (S.kn 3)) h12
 have h14 := heap_setCell_same _ b 13 _ _ (.int .i64 (S.kn 4)) h13
 have h15 := heap_setCell_same _ b 14 _ _ (.int .i64 (S.kn 5)) h14
 simpa using h15
theorem Pp.set {w V : World} {b : Nat} {R : Rec} (h : Pp w V b R) (S : Rec) : Pp w (V.setCells b 0 [.string S.text, .int .i64 S.br, .int .i64 S.bn, .int .i64 (S.ch 0), .int .i64 (S.ch 1), .int .i64 (S.ch 2), .int .i64 (S.ch 3), .int .i64 (S.ch 4), .int .i64 (S.ch 5), .int .i64 (S.kn 0), .int .i64 (S.kn 1), .int .i64 (S.kn 2), .int .i64 (S.kn 3), .int .i64 (S.kn 4), .int .i64 (S.kn 5)]) b S := by
 have hf : Fr (fun k => k = b) V (V.setCells b 0 [.string S.text, .int .i64 S.br, .int .i64 S.bn, .int .i64 (S.ch 0), .int .i64 (S.ch 1), .int .i64 (S.ch 2), .int .i64 (S.ch 3), .int .i64 (S.ch 4), .int .i64 (S.ch 5), .int .i64 (S.kn 0), .int .i64 (S.kn 1), .int .i64 (S.kn 2), .int .i64 (S.kn 3), .int .i64 (S.kn 4), .int .i64 (S.kn 5)]) := (Fr.refl _ _).setCells _ 0 _ (.inl rfl)
 exact ⟨h.rc.setAll S, h.ge, ⟨hf.os.trans h.bel.os, hf.tape.trans h.bel.tape, hf.output.trans h.bel.output, Nat.le_trans h.bel.size hf.size, fun k hk => (hf.block k (by have := h.rc.lt; have := h.ge; omega) (by have := h.ge; omega)).trans (h.bel.block k hk)⟩⟩
theorem Pp.other {w V : World} {b i : Nat} {R : Rec} (h : Pp w V b R) (hi : w.heap.size ≤ i) (hn : b ≠ i) (vs : List Value) : Pp w (V.setCells i 0 vs) b R := by
 have hf : Fr (fun k => k = i) V (V.setCells i 0 vs) := (Fr.refl _ _).setCells _ 0 _ (.inl rfl)
 exact ⟨h.rc.keep (hf.block _ h.rc.lt hn), h.ge, ⟨hf.os.trans h.bel.os, hf.tape.trans h.bel.tape, hf.output.trans h.bel.output, Nat.le_trans h.bel.size hf.size, fun k hk => (hf.block k (by have := h.rc.lt; have := h.ge; omega) (by omega)).trans (h.bel.block k hk)⟩⟩
theorem yty (V : World) : (V.alloc (.cells #[.string ⟨#[]⟩, .int .i64 0, .int .i64 0, .int .i64 0, .int .i64 0, .int .i64 0, .int .i64 0, .int .i64 0, .int .i64 0, .int .i64 0, .int .i64 0, .int .i64 0, .int .i64 0, .int .i64 0, .int .i64 0] 197)).there V.heap.size 0 15 := yap.there (R := rec0) ⟨heap_alloc_new _ _⟩
open Go.RowKit
def ykz (n : Nat) : List RS := List.replicate n ⟨fun _ => 0, []⟩
theorem tf_zero (s : Nat) : tf s 0 = fun _ => 0 := tf_nil s
theorem nnew_any (n : Nat) (w : World) (h1 : 1 ≤ n) (h6 : n ≤ 6) :
  Calls Tryz.prog 25 #[.int .i64 n] w fun e w' => e = .returned (.tuple #[.pointer (some ⟨w.heap.size, 0, none⟩), .int .i64 0]) ∧ ∃ pb L, Nt w' w.heap.size pb L (ykz n) ∧ L.length = n ∧ w.heap.size ≤ pb ∧ (∀ x ∈ L, w.heap.size ≤ x.1 ∧ w.heap.size ≤ x.2) ∧ Below w.heap.size w w' := by
 refine (netNew_all n w h1 h6).mono ?_
 rintro e w' ⟨rfl, P, hP, hk, hrw, hb⟩
 have hrl : P.rbs.length = n := hP.net.len
 have hml : P.mbs.length = n := hP.ml
 have e1 : (P.rbs.zip P.mbs).map (·.1) = P.rbs := List.map_fst_zip (by omega)
 have e2 : (P.rbs.zip P.mbs).map (·.2) = P.mbs := List.map_snd_zip (by omega)
 have hlen : (ykz n).length = n := by simp [ykz]
 refine ⟨rfl, P.pb, P.rbs.zip P.mbs, ⟨?_, fun i x s hx hs => ?_, hP.lt _ (.inl rfl), hP.lt _ (.inr (.inl rfl)), ?_, hrw⟩, by simp; omega, hk _ (.inr (.inl rfl)), fun x hx => ?_, hb⟩
 ·rw [e1, hlen]; exact hP.net
 ·have hx1 : P.rbs[i]? = some x.1 := by rw [← e1, List.getElem?_map, hx]; rfl
  have hx2 : P.mbs[i]? = some x.2 := by rw [← e2, List.getElem?_map, hx]; rfl
  obtain ⟨E, hE, hF⟩ := hP.rep i x.1 x.2 hx1 hx2
  have eE : E = [] := by
   have : filesE E = [] := hF.symm
   simpa [filesE] using this
  subst eE
  have es : s = ⟨fun _ => 0, []⟩ := by
   unfold ykz at hs
   rw [List.getElem?_replicate] at hs
   split at hs
   ·exact (Option.some.inj hs).symm
   ·cases hs
  subst es
  have hr := hE.rep
  have ec : (newAbs n).c i = 0 := rfl
  rw [ec, tf_zero] at hr
  exact ⟨hr, hE.own, hE.ris, fun x hx => by simp at hx, by simp, Int.le_refl 0⟩
 ·rw [e1, e2]; exact hP.nd
 ·have m1 : x.1 ∈ P.rbs := by rw [← e1]; exact List.mem_map.2 ⟨x, hx, rfl⟩
  have m2 : x.2 ∈ P.mbs := by rw [← e2]; exact List.mem_map.2 ⟨x, hx, rfl⟩
  exact ⟨hk _ (.inr (.inr (.inl m1))), hk _ (.inr (.inr (.inr m2)))⟩
attribute [local go_sem ↓] Go.wp_at_zero Go.wp_at_succ
attribute [local go_sem ↓] ynk
attribute [local go_sem] yjd
theorem built18 (w : World) (a b d : Nat → Int) (ty : TypeId) :
  (∀ j, j < 6 → (w.alloc (.cells #[.int .i64 (a 0), .int .i64 (a 1), .int .i64 (a 2), .int .i64 (a 3), .int .i64 (a 4), .int .i64 (a 5), .int .i64 (b 0), .int .i64 (b 1), .int .i64 (b 2), .int .i64 (b 3), .int .i64 (b 4), .int .i64 (b 5), .int .i64 (d 0), .int .i64 (d 1), .int .i64 (d 2), .int .i64 (d 3), .int .i64 (d 4), .int .i64 (d 5)] ty)).cell? ⟨w.heap.size, j, none⟩ = some (.int .i64 (a j))) ∧
  (∀ j, j < 6 → (w.alloc (.cells #[.int .i64 (a 0), .int .i64 (a 1), .int .i64 (a 2), .int .i64 (a 3), .int .i64 (a 4), .int .i64 (a 5), .int .i64 (b 0), .int .i64 (b 1), .int .i64 (b 2), .int .i64 (b 3), .int .i64 (b 4), .int .i64 (b 5), .int .i64 (d 0), .int .i64 (d 1), .int .i64 (d 2), .int .i64 (d 3), .int .i64 (d 4), .int .i64 (d 5)] ty)).cell? ⟨w.heap.size, 6 + j, none⟩ = some (.int .i64 (b j))) ∧
  (∀ j, j < 6 → (w.alloc (.cells #[.int .i64 (a 0), .int .i64 (a 1), .int .i64 (a 2), .int .i64 (a 3), .int .i64 (a 4), .int .i64 (a 5), .int .i64 (b 0), .int .i64 (b 1), .int .i64 (b 2), .int .i64 (b 3), .int .i64 (b 4), .int .i64 (b 5), .int .i64 (d 0), .int .i64 (d 1), .int .i64 (d 2), .int .i64 (d 3), .int .i64 (d 4), .int .i64 (d 5)] ty)).cell? ⟨w.heap.size, 12 + j, none⟩ = some (.int .i64 (d j))) := by
 refine ⟨?_, ?_, ?_⟩
 all_goals
  intro j hj
  simp only [World.cell?, heap_alloc_new]
  match j, hj with
  |0, _ | 1, _ | 2, _ | 3, _ | 4, _ | 5, _ => rfl
structure S3 (w V : World) (b : Nat) (R p q : Rec) (s : Nat) (x : Int) : Prop where
 rc : yap V b R
 a : ∀ j, j < 6 → V.cell? ⟨w.heap.size, 3 + j, none⟩ = some (.int .i64 (p.ch j))
 o : ∀ j, j < 6 → V.cell? ⟨w.heap.size + 1, 3 + j, none⟩ = some (.int .i64 (q.ch j))
 e0 : V.cell? ⟨w.heap.size + 2, 0, none⟩ = some (.int .i64 s)
 e1 : V.cell? ⟨w.heap.size + 2, 1, none⟩ = some (.int .i64 x)
 lt : w.heap.size + 2 < V.heap.size
 blt : b < w.heap.size
 fr : Fr (fun k => k = b) w V
theorem S3.more {w V V' : World} {b : Nat} {R p q : Rec} {s : Nat} {x : Int} (h : S3 w V b R p q s x) (hb : Below V.heap.size V V') : S3 w V' b R p q s x :=
 ⟨h.rc.more hb, fun j hj => (hb.cell (p := ⟨w.heap.size, 3 + j, none⟩) (by have := h.lt; simp only; omega)).trans (h.a j hj), fun j hj => (hb.cell (p := ⟨w.heap.size + 1, 3 + j, none⟩) (by have := h.lt; simp only; omega)).trans (h.o j hj), (hb.cell (p := ⟨w.heap.size + 2, 0, none⟩) h.lt).trans h.e0, (hb.cell (p := ⟨w.heap.size + 2, 1, none⟩) h.lt).trans h.e1, Nat.lt_of_lt_of_le h.lt hb.size, h.blt, h.fr.trans (Fr.of_below hb)⟩
theorem S3.on {w V V' : World} {b : Nat} {R R' p q : Rec} {s : Nat} {x : Int} (h : S3 w V b R p q s x) (hr : yap V' b R') (hf : Fr (fun k => k = b) V V') : S3 w V' b R' p q s x :=
 ⟨hr, fun j hj => (World.cell?_of_block (w := V) (hf.block _ (by have := h.lt; simp only; omega) (by have := h.blt; simp only; omega))).trans (h.a j hj), fun j hj => (World.cell?_of_block (w := V) (hf.block _ (by have := h.lt; simp only; omega) (by have := h.blt; simp only; omega))).trans (h.o j hj), (World.cell?_of_block (w := V) (hf.block _ h.lt (by have := h.blt; simp only; omega))).trans h.e0, (World.cell?_of_block (w := V) (hf.block _ h.lt (by have := h.blt; simp only; omega))).trans h.e1, Nat.lt_of_lt_of_le h.lt hf.size, h.blt, h.fr.trans hf⟩
theorem S3.made {w : World} {b : Nat} {R : Rec} (h : yap w b R) (p q : Rec) (s : Nat) (x : Int) : S3 w (((w.alloc (.cells #[.string p.text, .int .i64 p.br, .int .i64 p.bn, .int .i64 (p.ch 0), .int .i64 (p.ch 1), .int .i64 (p.ch 2), .int .i64 (p.ch 3), .int .i64 (p.ch 4), .int .i64 (p.ch 5)] 193)).alloc (.cells #[.string q.text, .int .i64 q.br, .int .i64 q.bn, .int .i64 (q.ch 0), .int .i64 (q.ch 1), .int .i64 (q.ch 2), .int .i64 (q.ch 3), .int .i64 (q.ch 4), .int .i64 (q.ch 5)] 193)).alloc (.cells #[.int .i64 s, .int .i64 x] 191)) b R p q s x := by
 have b1 := (Below.refl w.heap.size w).alloc (Nat.le_refl _) (.cells #[.string p.text, .int .i64 p.br, .int .i64 p.bn, .int .i64 (p.ch 0), .int .i64 (p.ch 1), .int .i64 (p.ch 2), .int .i64 (p.ch 3), .int .i64 (p.ch 4), .int .i64 (p.ch 5)] 193)
 have c1 : ∀ j, j < 6 → (w.alloc (.cells #[.string p.text, .int .i64 p.br, .int .i64 p.bn, .int .i64 (p.ch 0), .int .i64 (p.ch 1), .int .i64 (p.ch 2), .int .i64 (p.ch 3), .int .i64 (p.ch 4), .int .i64 (p.ch 5)] 193)).cell? ⟨w.heap.size, 3 + j, none⟩ = some (.int .i64 (p.ch j)) := by
  intro j hj
  simp only [World.cell?, heap_alloc_new]
  match j, hj with
  |0, _ | 1, _ | 2, _ | 3, _ | 4, _ | 5, _ => rfl
 generalize hV : w.alloc (.cells #[.string p.text, .int .i64 p.br, .int .i64 p.bn, .int .i64 (p.ch 0), .int .i64 (p.ch 1), .int .i64 (p.ch 2), .int .i64 (p.ch 3), .int .i64 (p.ch 4), .int .i64 (p.ch 5)] 193) = V at *
 have s1 : V.heap.size = w.heap.size + 1 := by rw [← hV]; simp
 have b2 := (Below.refl V.heap.size V).alloc (Nat.le_refl _) (.cells #[.string q.text, .int .i64 q.br, .int .i64 q.bn, .int .i64 (q.ch 0), .int .i64 (q.ch 1), .int .i64 (q.ch 2), .int .i64 (q.ch 3), .int .i64 (q.ch 4), .int .i64 (q.ch 5)] 193)
 have c2 : ∀ j, j < 6 → (V.alloc (.cells #[.string q.text, .int .i64 q.br, .int .i64 q.bn, .int .i64 (q.ch 0), .int .i64 (q.ch 1), .int .i64 (q.ch 2), .int .i64 (q.ch 3), .int .i64 (q.ch 4), .int .i64 (q.ch 5)] 193)).cell? ⟨V.heap.size, 3 + j, none⟩ = some (.int .i64 (q.ch j)) := by
  intro j hj
  simp only [World.cell?, heap_alloc_new]
  match j, hj with
  |0, _ | 1, _ | 2, _ | 3, _ | 4, _ | 5, _ => rfl
 generalize hU : V.alloc (.cells #[.string q.text, .int .i64 q.br, .int .i64 q.bn, .int .i64 (q.ch 0), .int .i64 (q.ch 1), .int .i64 (q.ch 2), .int .i64 (q.ch 3), .int .i64 (q.ch 4), .int .i64 (q.ch 5)] 193) = U at *
 have s2 : U.heap.size = w.heap.size + 2 := by rw [← hU]; simp [s1]
 have b3 := (Below.refl U.heap.size U).alloc (Nat.le_refl _) (.cells #[.int .i64 s, .int .i64 x] 191)
 have bel : Below w.heap.size w (U.alloc (.cells #[.int .i64 s, .int .i64 x] 191)) := (b1.trans (b2.mono (by omega))).trans (b3.mono (by omega))
 refine ⟨h.more bel, fun j hj => ?_, fun j hj => ?_, ?_, ?_, by simp [s2], h.lt, Fr.of_below bel⟩
 ·rw [b3.cell (by simp only; omega), b2.cell (by simp only; omega)]; exact c1 j hj
 ·rw [b3.cell (by simp only; omega), ← s1]; exact c2 j hj
 ·rw [← s2]; simp only [World.cell?, heap_alloc_new]; rfl
 ·rw [← s2]; simp only [World.cell?, heap_alloc_new]; rfl
theorem yap.there36 {w : World} {b : Nat} {R : Rec} (h : yap w b R) : w.there b 3 6 := fun j hj => by
 have := h.there (3 + j) (by omega)
 rwa [Nat.zero_add] at this
def settled (s : Nat) (x : Int) (p q R : Rec) : Rec := if (decide (0 < R.bn)) = true then ⟨R.text, s, x, g3 p.ch q.ch (tf s x), R.kn⟩ else R
theorem settle_no (b : Nat) (R p q : Rec) (s : Nat) (x : Int) (w : World) (h : yap w b R) (hn : decide (0 < R.bn) = false) :
  Calls Tryz.prog 116 #[.pointer (some ⟨b, 0, none⟩), ybs p, ybs q, .agg #[.int .i64 s, .int .i64 x]] w fun e w' => e = .returned (.tuple #[]) ∧ yap w' b R ∧ Fr (fun k => k = b) w w' := by
 have S1 := yac (S3.made h p q s x)
 obtain ⟨k0, k1, k2, k3, k4, k5, k6, k7, k8, k9, k10, k11, k12, k13, k14⟩ := S1.out.rc.cells
 unfold ybs
 go_enter Tryz.func116, Tryz.ntmps116
 go_wp2_with (go_at_call 113; refine (yav _ _ _ _ _ _ _ _ _ _).mono ?_; rintro e w1 ⟨rfl, hb1⟩; have S2 := yac (S1.out.more hb1); clear hb1)
 go_end0
 exact ⟨rfl, S2.out.rc, S2.out.fr⟩
theorem settle_yes (b : Nat) (R p q : Rec) (s : Nat) (hs : s < 6) (x : Int) (w : World) (h : yap w b R) (hn : decide (0 < R.bn) = true) :
  Calls Tryz.prog 116 #[.pointer (some ⟨b, 0, none⟩), ybs p, ybs q, .agg #[.int .i64 s, .int .i64 x]] w fun e w' => e = .returned (.tuple #[]) ∧ yap w' b ⟨R.text, s, x, g3 p.ch q.ch (tf s x), R.kn⟩ ∧ Fr (fun k => k = b) w w' := by
 have S1 := yac (S3.made h p q s x)
 obtain ⟨k0, k1, k2, k3, k4, k5, k6, k7, k8, k9, k10, k11, k12, k13, k14⟩ := S1.out.rc.cells
 unfold ybs
 clear h
 go_enter Tryz.func116, Tryz.ntmps116
 go_wp2_with (go_at_call 113; refine (yav _ _ _ _ _ _ _ _ _ _).mono ?_; (try clear k0 k1 k2 k3 k4 k5 k6 k7 k8 k9 k10 k11 k12 k13 k14); rintro e w1 ⟨rfl, hb1⟩; have S2 := yac (S1.out.more hb1); obtain ⟨k0, k1, k2, k3, k4, k5, k6, k7, k8, k9, k10, k11, k12, k13, k14⟩ := S2.out.rc.cells; have fz := S2.out.rc.fz; have ev0 := S2.out.e0; have ev1 := S2.out.e1; clear hb1)
 clear k0 k1 k2 k3 k4 k5 k6 k7 k8 k9 k10 k11 k12 k13 k14 fz ev0 ev1
 have S4 : Hid (S3 w ((w1.setCell ⟨b, 1, none⟩ (.int .i64 s)).setCell ⟨b, 2, none⟩ (.int .i64 x)) b ⟨R.text, s, x, R.ch, R.kn⟩ p q s x) :=
  S2.out.on ((S2.out.rc.setBr s).setBn x) (((Fr.refl (fun k => k = b) w1).setCell (p := ⟨b, 1, none⟩) (.inl rfl) (.int .i64 s)).setCell (p := ⟨b, 2, none⟩) (.inl rfl) (.int .i64 x))
 generalize (w1.setCell ⟨b, 1, none⟩ (.int .i64 s)).setCell ⟨b, 2, none⟩ (.int .i64 x) = W1 at *
 have ma0 : W1.cell? ⟨w.heap.size, 3, none⟩ = some (.int .i64 (p.ch 0)) := S4.out.a 0 (by omega)
 have ma1 : W1.cell? ⟨w.heap.size, 4, none⟩ = some (.int .i64 (p.ch 1)) := S4.out.a 1 (by omega)
 have ma2 : W1.cell? ⟨w.heap.size, 5, none⟩ = some (.int .i64 (p.ch 2)) := S4.out.a 2 (by omega)
 have ma3 : W1.cell? ⟨w.heap.size, 6, none⟩ = some (.int .i64 (p.ch 3)) := S4.out.a 3 (by omega)
 have ma4 : W1.cell? ⟨w.heap.size, 7, none⟩ = some (.int .i64 (p.ch 4)) := S4.out.a 4 (by omega)
 have ma5 : W1.cell? ⟨w.heap.size, 8, none⟩ = some (.int .i64 (p.ch 5)) := S4.out.a 5 (by omega)
 have mo0 : W1.cell? ⟨w.heap.size + 1, 3, none⟩ = some (.int .i64 (q.ch 0)) := S4.out.o 0 (by omega)
 have mo1 : W1.cell? ⟨w.heap.size + 1, 4, none⟩ = some (.int .i64 (q.ch 1)) := S4.out.o 1 (by omega)
 have mo2 : W1.cell? ⟨w.heap.size + 1, 5, none⟩ = some (.int .i64 (q.ch 2)) := S4.out.o 2 (by omega)
 have mo3 : W1.cell? ⟨w.heap.size + 1, 6, none⟩ = some (.int .i64 (q.ch 3)) := S4.out.o 3 (by omega)
 have mo4 : W1.cell? ⟨w.heap.size + 1, 7, none⟩ = some (.int .i64 (q.ch 4)) := S4.out.o 4 (by omega)
 have mo5 : W1.cell? ⟨w.heap.size + 1, 8, none⟩ = some (.int .i64 (q.ch 5)) := S4.out.o 5 (by omega)
 have me0 : W1.cell? ⟨w.heap.size + 2, 0, none⟩ = some (.int .i64 s) := S4.out.e0
 have me1 : W1.cell? ⟨w.heap.size + 2, 1, none⟩ = some (.int .i64 x) := S4.out.e1
 have DR : Hid (∀ V, Below W1.heap.size W1.drew V → S3 w V b ⟨R.text, s, x, R.ch, R.kn⟩ p q s x) := fun V hb => S4.out.more ⟨hb.os, hb.tape, hb.output, hb.size, hb.block⟩
 go_region_law (first
  |(go_simp; go_at_call 111; refine (yhr s x _ hs).mono ?_; (try clear ma0 ma1 ma2 ma3 ma4 ma5 mo0 mo1 mo2 mo3 mo4 mo5 me0 me1); rintro e w2 ⟨rfl, hb2⟩; have S5 := yac (DR.out _ hb2); have na0 : w2.cell? ⟨w.heap.size, 3, none⟩ = some (.int .i64 (p.ch 0)) := S5.out.a 0 (by omega); have na1 : w2.cell? ⟨w.heap.size, 4, none⟩ = some (.int .i64 (p.ch 1)) := S5.out.a 1 (by omega); have na2 : w2.cell? ⟨w.heap.size, 5, none⟩ = some (.int .i64 (p.ch 2)) := S5.out.a 2 (by omega); have na3 : w2.cell? ⟨w.heap.size, 6, none⟩ = some (.int .i64 (p.ch 3)) := S5.out.a 3 (by omega); have na4 : w2.cell? ⟨w.heap.size, 7, none⟩ = some (.int .i64 (p.ch 4)) := S5.out.a 4 (by omega); have na5 : w2.cell? ⟨w.heap.size, 8, none⟩ = some (.int .i64 (p.ch 5)) := S5.out.a 5 (by omega); have no0 : w2.cell? ⟨w.heap.size + 1, 3, none⟩ = some (.int .i64 (q.ch 0)) := S5.out.o 0 (by omega); have no1 : w2.cell? ⟨w.heap.size + 1, 4, none⟩ = some (.int .i64 (q.ch 1)) := S5.out.o 1 (by omega); have no2 : w2.cell? ⟨w.heap.size + 1, 5, none⟩ = some (.int .i64 (q.ch 2)) := S5.out.o 2 (by omega); have no3 : w2.cell? ⟨w.heap.size + 1, 6, none⟩ = some (.int .i64 (q.ch 3)) := S5.out.o 3 (by omega); have no4 : w2.cell? ⟨w.heap.size + 1, 7, none⟩ = some (.int .i64 (q.ch 4)) := S5.out.o 4 (by omega); have no5 : w2.cell? ⟨w.heap.size + 1, 8, none⟩ = some (.int .i64 (q.ch 5)) := S5.out.o 5 (by omega); have ne0 : w2.cell? ⟨w.heap.size + 2, 0, none⟩ = some (.int .i64 s) := S5.out.e0; have ne1 : w2.cell? ⟨w.heap.size + 2, 1, none⟩ = some (.int .i64 x) := S5.out.e1; have KB := yac (built18 w2 p.ch q.ch (tf s x) 186); clear hb2; dsimp only)
  |(go_simp; go_at_call 128; refine (ynx w2.heap.size 3 p.ch q.ch (tf s x) _ (by simp) (by exact KB.out.1) (by exact KB.out.2.1) (by exact KB.out.2.2)).mono ?_; rintro e w3 ⟨rfl, hb3⟩; have S6 := yac ((S5.out.more ((Below.refl _ _).alloc (Nat.le_refl _) (.cells #[.int .i64 (p.ch 0), .int .i64 (p.ch 1), .int .i64 (p.ch 2), .int .i64 (p.ch 3), .int .i64 (p.ch 4), .int .i64 (p.ch 5), .int .i64 (q.ch 0), .int .i64 (q.ch 1), .int .i64 (q.ch 2), .int .i64 (q.ch 3), .int .i64 (q.ch 4), .int .i64 (q.ch 5), .int .i64 ((tf s x) 0), .int .i64 ((tf s x) 1), .int .i64 ((tf s x) 2), .int .i64 ((tf s x) 3), .int .i64 ((tf s x) 4), .int .i64 ((tf s x) 5)] 186))).more hb3); have dth := S6.out.rc.there36; clear hb3; dsimp only))
 all_goals go_wp2
 all_goals go_end0
 all_goals exact ⟨rfl, S6.out.rc.setCh (g3 p.ch q.ch (tf s x)), S6.out.fr.setCells b 3 _ (.inl rfl)⟩
theorem settle_any (b : Nat) (R p q : Rec) (s : Nat) (hs : s < 6) (x : Int) (w : World) (h : yap w b R) :
  Calls Tryz.prog 116 #[.pointer (some ⟨b, 0, none⟩), ybs p, ybs q, .agg #[.int .i64 s, .int .i64 x]] w fun e w' => e = .returned (.tuple #[]) ∧ yap w' b (settled s x p q R) ∧ Fr (fun k => k = b) w w' := by
 unfold settled
 cases hn : decide (0 < R.bn)
 ·simpa using settle_no b R p q s x w h hn
 ·simpa using settle_yes b R p q s hs x w h hn
end Go.Proofs.YtaelaldmibgibaaGreatDoor

namespace Go.Proofs.YtaelaldmibgibaaGreatDoor
open Go.RowKit Go.Maps
theorem room_rg (rb s : Nat) (cm : Nat → Int) (mb : Nat) (E : yat) (w : World) (h : Rg w rb s cm mb E) (R : Rec) :
  Calls Tryz.prog 106 #[.pointer (some ⟨rb, 0, none⟩), yae R] w fun e w' => e = .returned (.bool (noRoom R E)) ∧ Below w.heap.size w w' := by
 have B1 := yac ((Below.refl w.heap.size w).alloc (Nat.le_refl _) (.cells #[.string R.text, .int .i64 R.br, .int .i64 R.bn, .int .i64 (R.ch 0), .int .i64 (R.ch 1), .int .i64 (R.ch 2), .int .i64 (R.ch 3), .int .i64 (R.ch 4), .int .i64 (R.ch 5), .int .i64 (R.kn 0), .int .i64 (R.kn 1), .int .i64 (R.kn 2), .int .i64 (R.kn 3), .int .i64 (R.kn 4), .int .i64 (R.kn 5)] 197))
 have FI : Hid (∀ V, Below w.heap.size w V → Calls Tryz.prog 129 #[.pointer (some ⟨rb, 0, none⟩)] V fun e w' => e = .returned (.int .i64 (ycl E).length) ∧ Below w.heap.size w w') := fun V hb => by
  have h' := h.below hb
  refine (yhy rb s cm mb V h'.rep E h'.ris (by have := h'.len; omega) h'.own).mono ?_
  rintro e w' ⟨rfl, hb'⟩
  exact ⟨rfl, hb.trans (hb'.mono hb.size)⟩
 unfold yae noRoom
 clear h
 cases hd : decide (0 < R.bn)
 all_goals
  go_enter Tryz.func106, Tryz.ntmps106
  go_wp2_with (first
   |(go_at_call 113; refine (yav _ _ _ _ _ _ _ _ _ _).mono ?_; rintro e w3 ⟨rfl, hbr⟩; have B3 := yac (B1.out.trans (hbr.mono B1.out.size)); clear hbr)
   |(go_at_call 129; refine (FI.out _ B3.out).mono ?_; rintro e w4 ⟨rfl, hbr⟩; have B4 := yac hbr; clear hbr))
  go_ret
  exact ⟨rfl, by first | exact B4.out | exact B3.out⟩
structure Rv (w V : World) (rb s mb b : Nat) (cm : Nat → Int) (E : yat) (R : Rec) (eb : Nat) (eo : Option Obj) (b1 : Nat) (R1 : Rec) (b2 : Nat) (R2 : Rec) : Prop where
 sg : Sg w V rb s mb b cm E R eb eo
 r1 : yap V b1 R1
 r2 : yap V b2 R2
 g1 : w.heap.size ≤ b1
 g2 : w.heap.size ≤ b2
 n1 : b ≠ b1
 n2 : b ≠ b2
section
variable {w V V' : World} {rb s mb b : Nat} {cm : Nat → Int} {E : yat} {R R' : Rec} {eb : Nat} {eo : Option Obj} {b1 b2 : Nat} {R1 R2 : Rec}
theorem Rv.below (h : Rv w V rb s mb b cm E R eb eo b1 R1 b2 R2) (hb : Below V.heap.size V V') : Rv w V' rb s mb b cm E R eb eo b1 R1 b2 R2 :=
 ⟨h.sg.below hb, h.r1.more hb, h.r2.more hb, h.g1, h.g2, h.n1, h.n2⟩
theorem Rv.drew (h : Rv w V rb s mb b cm E R eb eo b1 R1 b2 R2) : Rv w V.drew rb s mb b cm E R eb eo b1 R1 b2 R2 := h.below ⟨rfl, rfl, rfl, Nat.le_refl _, fun _ _ => rfl⟩
theorem Rv.onRec (h : Rv w V rb s mb b cm E R eb eo b1 R1 b2 R2) (hf : Fr (fun k => k = b) V V') (hr : yap V' b R') : Rv w V' rb s mb b cm E R' eb eo b1 R1 b2 R2 :=
 ⟨h.sg.onRec hf hr, h.r1.keep (hf.block _ h.r1.lt h.n1.symm), h.r2.keep (hf.block _ h.r2.lt h.n2.symm), h.g1, h.g2, h.n1, h.n2⟩
theorem Rv.alloc_ev (h : Rv w V rb s mb b cm E R eb eo b1 R1 b2 R2) (o : Obj) : Rv w (V.alloc o) rb s mb b cm E R V.heap.size (some o) b1 R1 b2 R2 := by
 have hb : Below V.heap.size V (V.alloc o) := (Below.refl _ _).alloc (Nat.le_refl _) o
 exact ⟨h.sg.alloc_ev o, h.r1.more hb, h.r2.more hb, h.g1, h.g2, h.n1, h.n2⟩
theorem Rv.rg (h : Rv w V rb s mb b cm E R eb eo b1 R1 b2 R2) {cm0 : Nat → Int} (h0 : Rg w rb s cm0 mb E) (hc : 0 ≤ cm s) : Rg V rb s cm mb E := ⟨h.sg.rep, h.sg.own, h0.ris, h0.bn, h0.len, hc⟩
theorem Rv.full (S : Rv w V rb s mb b cm E R eb eo b1 R1 b2 R2) : Calls Tryz.prog 105 #[.pointer (some ⟨rb, 0, none⟩)] V fun e w' => e = .returned (.bool (decide (1000000000 ≤ cm s))) ∧ Rv w w' rb s mb b cm E R eb eo b1 R1 b2 R2 := by
 refine (yhb rb s cm mb V S.sg.rep).mono ?_
 rintro e w' ⟨rfl, nq, rfl⟩
 exact ⟨rfl, S.below ⟨rfl, rfl, rfl, Nat.le_refl _, fun _ _ => rfl⟩⟩
theorem Rv.there (S : Rv w V rb s mb b cm E R eb eo b1 R1 b2 R2) (Q : Rec) : Calls Tryz.prog 113 #[ybs Q] V fun e w' => e = .returned (.bool (decide (0 < Q.bn))) ∧ Rv w w' rb s mb b cm E R eb eo b1 R1 b2 R2 := by
 refine (yav _ _ _ _ _ _ _ _ _ V).mono ?_
 rintro e w' ⟨rfl, hb⟩
 exact ⟨rfl, S.below hb⟩
theorem Rv.room (S : Rv w V rb s mb b cm E R eb eo b1 R1 b2 R2) (h : Rg w rb s cm mb E) (Q : Rec) : Calls Tryz.prog 106 #[.pointer (some ⟨rb, 0, none⟩), yae Q] V fun e w' => e = .returned (.bool (noRoom Q E)) ∧ Rv w w' rb s mb b cm E R eb eo b1 R1 b2 R2 := by
 refine (room_rg rb s cm mb E V (S.rg h h.c0) Q).mono ?_
 rintro e w' ⟨rfl, hb⟩
 exact ⟨rfl, S.below hb⟩
theorem Rv.next (S : Rv w V rb s mb b cm E R eb eo b1 R1 b2 R2) (h0 : 0 ≤ cm s) (hc : cm s < 1000000000) : Calls Tryz.prog 107 #[.pointer (some ⟨rb, 0, none⟩)] V fun e w' => e = .returned (.agg #[.int .i64 s, .int .i64 (cm s + 1)]) ∧ Rv w w' rb s mb b (nxG s cm) E R eb eo b1 R1 b2 R2 := by
 refine (next_any rb s cm mb V S.sg.rep h0 hc).mono ?_
 rintro e w' ⟨rfl, hr, hf⟩
 have hl := S.sg.rlt
 have h1 : b ≠ rb := by have := S.sg.bge; omega
 have h2 := (S.sg.rep.ne S.sg.own).symm
 refine ⟨rfl, ⟨S.sg.rc.keep (hf.block _ S.sg.rc.lt h1), hr, ybc S.sg.own (hf.block _ S.sg.own.lt h2), S.sg.fr.trans (hf.mono (fun k _ e => .inl e)), S.sg.rlt, S.sg.mlt, S.sg.bge, fun o ho => ?_⟩, S.r1.keep (hf.block _ S.r1.lt (by have := S.g1; omega)), S.r2.keep (hf.block _ S.r2.lt (by have := S.g2; omega)), S.g1, S.g2, S.n1, S.n2⟩
 obtain ⟨e1, e2, e3⟩ := S.sg.ev o ho
 exact ⟨by rw [hf.block _ (S.sg.elt o ho) (by omega)]; exact e1, e2, e3⟩
theorem Rv.settle (S : Rv w V rb s mb b cm E R eb eo b1 R1 b2 R2) (x : Int) : Calls Tryz.prog 116 #[.pointer (some ⟨b, 0, none⟩), ybs R1, ybs R2, .agg #[.int .i64 s, .int .i64 x]] V fun e w' => e = .returned (.tuple #[]) ∧ Rv w w' rb s mb b cm E (settled s x R1 R2 R) eb eo b1 R1 b2 R2 := by
 refine (settle_any b R R1 R2 s S.sg.rep.hs x V S.sg.rc).mono ?_
 rintro e w' ⟨rfl, hr, hf⟩
 exact ⟨rfl, S.onRec hf hr⟩
theorem Rv.alone (S : Rv w V rb s mb b cm E R eb eo b1 R1 b2 R2) (x : Int) : Calls Tryz.prog 111 #[.agg #[.int .i64 s, .int .i64 x]] V fun e w' => e = .returned (.agg #[.int .i64 (tf s x 0), .int .i64 (tf s x 1), .int .i64 (tf s x 2), .int .i64 (tf s x 3), .int .i64 (tf s x 4), .int .i64 (tf s x 5)]) ∧ Rv w w' rb s mb b cm E R eb eo b1 R1 b2 R2 := by
 refine (yhr s x V S.sg.rep.hs).mono ?_
 rintro e w' ⟨rfl, hb⟩
 exact ⟨rfl, S.below hb⟩
theorem Rv.hear2 (S : Rv w V rb s mb b cm E R eb eo b1 R1 b2 R2) (u v : Nat → Int) (ty : TypeId) : Calls Tryz.prog 110 #[.pointer (some ⟨b, 9, none⟩), .slice (some ⟨V.heap.size, 0, none⟩) 2 2] (V.alloc (.cells #[.int .i64 (u 0), .int .i64 (u 1), .int .i64 (u 2), .int .i64 (u 3), .int .i64 (u 4), .int .i64 (u 5), .int .i64 (v 0), .int .i64 (v 1), .int .i64 (v 2), .int .i64 (v 3), .int .i64 (v 4), .int .i64 (v 5)] ty)) fun e w' => e = .returned (.tuple #[]) ∧ Rv w w' rb s mb b cm E ⟨R.text, R.br, R.bn, R.ch, yab R.kn (yab u v)⟩ eb eo b1 R1 b2 R2 := by
 have S' := S.below ((Below.refl _ _).alloc (Nat.le_refl _) (.cells #[.int .i64 (u 0), .int .i64 (u 1), .int .i64 (u 2), .int .i64 (u 3), .int .i64 (u 4), .int .i64 (u 5), .int .i64 (v 0), .int .i64 (v 1), .int .i64 (v 2), .int .i64 (v 3), .int .i64 (v 4), .int .i64 (v 5)] ty))
 obtain ⟨q1, q2⟩ := yet V u v ty
 refine (hear_rec2 b V.heap.size 2 u v R _ S'.sg.rc (by simp) q1 q2).mono ?_
 rintro e w' ⟨rfl, hr, hf⟩
 exact ⟨rfl, S'.onRec hf hr⟩
theorem Rv.evCells {x : Int} (S : Rv w V rb s mb b cm E R eb (some (.cells #[.int .i64 s, .int .i64 x] 191)) b1 R1 b2 R2) : V.cell? ⟨eb, 0, none⟩ = some (.int .i64 s) ∧ V.cell? ⟨eb, 1, none⟩ = some (.int .i64 x) := S.sg.evCells
end
end Go.Proofs.YtaelaldmibgibaaGreatDoor

namespace Go.Proofs.YtaelaldmibgibaaGreatDoor
open Go.RowKit Go.Maps
theorem yqx (rb s : Nat) (cm : Nat → Int) (mb : Nat) (E : yat) (rb' s' : Nat) (cm' : Nat → Int) (mb' : Nat) (E' : yat) (w : World) (h : Rg w rb s cm mb E) (h' : Rg w rb' s' cm' mb' E') (p : ByteArray) (hp : p.size ≤ 1000000000000) (th : Bool) (Ra Ro Rt : Rec) (z : Int) (e1 : yay s cm (yas p E) = Ra) (e2 : yay s' cm' (yas p E') = Ro) (e3 : yam Ra Ro = (Rt, z)) (hz : z ≠ 3) :
  Calls Tryz.prog 67 #[.pointer (some ⟨rb, 0, none⟩), .pointer (some ⟨rb', 0, none⟩), .string p, .bool th] w fun e w' => e = .returned (.int .i64 4) ∧ Below w.heap.size w w' := by
 have C1 := yac (yai rb s cm mb E w h.rep h.own p (by unfold maxLen; omega))
 have C2 : Hid (∀ V, Below w.heap.size w V → Calls Tryz.prog 104 #[.pointer (some ⟨rb', 0, none⟩), .string p] V fun e w' => e = .returned (yae Ro) ∧ Below w.heap.size w w') := fun V hb => by
  have q := h'.below hb
  rw [← e2]
  refine (yai rb' s' cm' mb' E' V q.rep q.own p (by unfold maxLen; omega)).mono ?_
  rintro e w' ⟨rfl, hb'⟩
  exact ⟨rfl, hb.trans (hb'.mono hb.size)⟩
 have o1 := ybf h p
 have o2 := ybf h' p
 rw [e1] at C1 o1
 rw [e2] at o2
 have C3 : Hid (∀ V, Calls Tryz.prog 115 #[yae Ra, yae Ro] V fun e w' => e = .returned (.tuple #[yae Rt, .int .i64 z]) ∧ Below V.heap.size V w') := fun V => by
  have := yct Ra Ro o1.2 o2.2 V
  rw [e3] at this
  exact this
 have hz1 : (z == 3) = false := by simpa using hz
 unfold yae at C1 C2 C3
 clear h h' e1 e2 e3 o1 o2
 go_enter Tryz.func67, Tryz.ntmps67
 go_wp2_with (first
  |(go_at_call_of 104 (Value.pointer (some ⟨rb, 0, none⟩)); refine C1.out.mono ?_; rintro e w1 ⟨rfl, hb1⟩; have B1 := yac hb1; clear hb1)
  |(go_at_call 104; refine (C2.out _ B1.out).mono ?_; rintro e w2 ⟨rfl, hb2⟩; have B2 := yac hb2; have S2 := yac (R2.made w2 Ra Ro); clear hb2)
  |(go_at_call 115; refine (C3.out _).mono ?_; rintro e w3 ⟨rfl, hb3⟩; have S3 := yac (S2.out.more hb3); have B3 := yac (B2.out.trans (S3.out.bel.mono B2.out.size)); clear hb3))
 go_ret
 exact ⟨rfl, B3.out.alloc B3.out.size _⟩
end Go.Proofs.YtaelaldmibgibaaGreatDoor
