/- The pull of one record from another. -/
import Derived.Test.YtaelaldmibgibaaGreatDoorX37

set_option linter.all false
set_option maxHeartbeats 2000000
set_option maxRecDepth 100000

namespace Go.Proofs.K
open Go.RowKit
variable {V V' w : World} {R a b : Rec}
theorem yap.there {b : Nat} (h : yap w b R) : w.there b 0 15 := by
 obtain ⟨k0, k1, k2, k3, k4, k5, k6, k7, k8, k9, k10, k11, k12, k13, k14⟩ := h.cells
 intro j hj
 refine ⟨?_, h.fz _⟩
 match j, hj with
 |0, _ => simp [k0]
 |1, _ => simp [k1]
 |2, _ => simp [k2]
 |3, _ => simp [k3]
 |4, _ => simp [k4]
 |5, _ => simp [k5]
 |6, _ => simp [k6]
 |7, _ => simp [k7]
 |8, _ => simp [k8]
 |9, _ => simp [k9]
 |10, _ => simp [k10]
 |11, _ => simp [k11]
 |12, _ => simp [k12]
 |13, _ => simp [k13]
 |14, _ => simp [k14]
theorem yap.there9 {b : Nat} (h : yap w b R) : w.there b 0 9 := fun j hj => h.there j (by omega)
theorem yap.setFile {b : Nat} (h : yap w b R) (t : ByteArray) (x y : Int) (c : Nat → Int) : yap (w.setCells b 0 [.string t, .int .i64 x, .int .i64 y, .int .i64 (c 0), .int .i64 (c 1), .int .i64 (c 2), .int .i64 (c 3), .int .i64 (c 4), .int .i64 (c 5)]) b ⟨t, x, y, c, R.kn⟩ := by
 constructor
 simp only [World.setCells]
 have h1 := heap_setCell_same w b 0 _ _ (.string t) h.blk
 have h2 := heap_setCell_same _ b 1 _ _ (.int .i64 x) h1
 have h3 := heap_setCell_same _ b 2 _ _ (.int .i64 y) h2
 have h4 := heap_setCell_same _ b 3 _ _ (.int .i64 (c 0)) h3
 have h5 := heap_setCell_same _ b 4 _ _ (.int .i64 (c 1)) h4
 have h6 := heap_setCell_same _ b 5 _ _ (.int .i64 (c 2)) h5
 have h7 := heap_setCell_same _ b 6 _ _ (.int .i64 (c 3)) h6
 have h8 := heap_setCell_same _ b 7 _ _ (.int .i64 (c 4)) h7
 have h9 := heap_setCell_same _ b 8 _ _ (.int .i64 (c 5)) h8
 simpa using h9
structure R3 (w V : World) (a b : Rec) : Prop where
 ra : yap V w.heap.size a
 rb : yap V (w.heap.size + 1) b
 rz : yap V (w.heap.size + 2) rec0
 bel : Below w.heap.size w V
theorem R3.made (w : World) (a b : Rec) : R3 w (((w.alloc (.cells #[.string a.text, .int .i64 a.br, .int .i64 a.bn, .int .i64 (a.ch 0), .int .i64 (a.ch 1), .int .i64 (a.ch 2), .int .i64 (a.ch 3), .int .i64 (a.ch 4), .int .i64 (a.ch 5), .int .i64 (a.kn 0), .int .i64 (a.kn 1), .int .i64 (a.kn 2), .int .i64 (a.kn 3), .int .i64 (a.kn 4), .int .i64 (a.kn 5)] 197)).alloc (.cells #[.string b.text, .int .i64 b.br, .int .i64 b.bn, .int .i64 (b.ch 0), .int .i64 (b.ch 1), .int .i64 (b.ch 2), .int .i64 (b.ch 3), .int .i64 (b.ch 4), .int .i64 (b.ch 5), .int .i64 (b.kn 0), .int .i64 (b.kn 1), .int .i64 (b.kn 2), .int .i64 (b.kn 3), .int .i64 (b.kn 4), .int .i64 (b.kn 5)] 197)).alloc (.cells #[.string ⟨#[]⟩, .int .i64 0, .int .i64 0, .int .i64 0, .int .i64 0, .int .i64 0, .int .i64 0, .int .i64 0, .int .i64 0, .int .i64 0, .int .i64 0, .int .i64 0, .int .i64 0, .int .i64 0, .int .i64 0] 197)) a b := by
 have h := R2.made w a b
 generalize hV : ((w.alloc (.cells #[.string a.text, .int .i64 a.br, .int .i64 a.bn, .int .i64 (a.ch 0), .int .i64 (a.ch 1), .int .i64 (a.ch 2), .int .i64 (a.ch 3), .int .i64 (a.ch 4), .int .i64 (a.ch 5), .int .i64 (a.kn 0), .int .i64 (a.kn 1), .int .i64 (a.kn 2), .int .i64 (a.kn 3), .int .i64 (a.kn 4), .int .i64 (a.kn 5)] 197)).alloc (.cells #[.string b.text, .int .i64 b.br, .int .i64 b.bn, .int .i64 (b.ch 0), .int .i64 (b.ch 1), .int .i64 (b.ch 2), .int .i64 (b.ch 3), .int .i64 (b.ch 4), .int .i64 (b.ch 5), .int .i64 (b.kn 0), .int .i64 (b.kn 1), .int .i64 (b.kn 2), .int .i64 (b.kn 3), .int .i64 (b.kn 4), .int .i64 (b.kn 5)] 197)) = V at *
 have hs : V.heap.size = w.heap.size + 2 := by rw [← hV]; simp
 have hb := (Below.refl V.heap.size V).alloc (Nat.le_refl _) (.cells #[.string ⟨#[]⟩, .int .i64 0, .int .i64 0, .int .i64 0, .int .i64 0, .int .i64 0, .int .i64 0, .int .i64 0, .int .i64 0, .int .i64 0, .int .i64 0, .int .i64 0, .int .i64 0, .int .i64 0, .int .i64 0] 197)
 refine ⟨h.ra.more hb, h.rb.more hb, ⟨?_⟩, h.bel.trans (hb.mono (by omega))⟩
 rw [← hs]
 exact heap_alloc_new _ _
theorem R3.more (h : R3 w V a b) (hb : Below V.heap.size V V') : R3 w V' a b :=
 ⟨h.ra.more hb, h.rb.more hb, h.rz.more hb, h.bel.trans (hb.mono h.bel.size)⟩
theorem R3.onA {a' : Rec} (h : R3 w V a b) (hr : yap V' w.heap.size a') (hf : Fr (fun k => k = w.heap.size) V V') : R3 w V' a' b :=
 ⟨hr, h.rb.keep (hf.block _ h.rb.lt (by omega)), h.rz.keep (hf.block _ h.rz.lt (by omega)), ⟨hf.os.trans h.bel.os, hf.tape.trans h.bel.tape, hf.output.trans h.bel.output, Nat.le_trans h.bel.size hf.size, fun k hk => (hf.block k (by have := h.ra.lt; omega) (by omega)).trans (h.bel.block k hk)⟩⟩
theorem R3.setFile (h : R3 w V a b) (t : ByteArray) (x y : Int) (c : Nat → Int) : R3 w (V.setCells w.heap.size 0 [.string t, .int .i64 x, .int .i64 y, .int .i64 (c 0), .int .i64 (c 1), .int .i64 (c 2), .int .i64 (c 3), .int .i64 (c 4), .int .i64 (c 5)]) ⟨t, x, y, c, a.kn⟩ b :=
 h.onA (h.ra.setFile t x y c) ((Fr.refl _ _).setCells _ 0 _ (.inl rfl))
theorem R3.hear (h : R3 w V a b) (u : Nat → Int) (ty : TypeId) :
  Calls Tryz.prog 110 #[.pointer (some ⟨w.heap.size, 9, none⟩), .slice (some ⟨V.heap.size, 0, none⟩) 1 1] (V.alloc (.cells #[.int .i64 (u 0), .int .i64 (u 1), .int .i64 (u 2), .int .i64 (u 3), .int .i64 (u 4), .int .i64 (u 5)] ty)) fun e w' => e = .returned (.tuple #[]) ∧ R3 w w' ⟨a.text, a.br, a.bn, a.ch, yac a.kn u⟩ b := by
 have h' := h.more ((Below.refl V.heap.size V).alloc (Nat.le_refl _) (.cells #[.int .i64 (u 0), .int .i64 (u 1), .int .i64 (u 2), .int .i64 (u 3), .int .i64 (u 4), .int .i64 (u 5)] ty))
 refine (hear_rec w.heap.size V.heap.size 1 u a _ h'.ra (by simp) (ynl V u ty)).mono ?_
 rintro e w' ⟨rfl, hr, hf⟩
 exact ⟨rfl, h'.onA hr hf⟩
theorem R3.remove (h : R3 w V a b) :
  Calls Tryz.prog 114 #[.pointer (some ⟨w.heap.size, 0, none⟩)] V fun e w' => e = .returned (.tuple #[]) ∧ R3 w w' ⟨⟨#[]⟩, 0, 0, fun _ => 0, a.kn⟩ b := by
 refine (yss w.heap.size a V h.ra).mono ?_
 rintro e w' ⟨rfl, hr, hf⟩
 exact ⟨rfl, h.onA hr hf⟩
theorem R3.bel' (h : R3 w V a b) (vs : List Value) : Below w.heap.size w (V.setCells (w.heap.size + 2) 0 vs) := by
 have hf : Fr (fun k => k = w.heap.size + 2) V (V.setCells (w.heap.size + 2) 0 vs) := (Fr.refl _ _).setCells _ 0 _ (.inl rfl)
 exact ⟨hf.os.trans h.bel.os, hf.tape.trans h.bel.tape, hf.output.trans h.bel.output, Nat.le_trans h.bel.size hf.size, fun k hk => (hf.block k (by have := h.ra.lt; omega) (by omega)).trans (h.bel.block k hk)⟩
theorem whatP_vals (t f : Rec) : ymh t f = 0 ∨ ymh t f = 1 ∨ ymh t f = 2 ∨ ymh t f = 3 := by
 unfold ymh inBo inF inT
 (repeat' split) <;> simp
def ydk (t f : Rec) : Rec × Int :=
 if yuf f t = true then (t, 0) else if ymh t f = 3 then (t, 3)
 else if ymh t f = 1 then (⟨f.text, f.br, f.bn, f.ch, yac t.kn f.kn⟩, 1)
 else if ymh t f = 2 then (⟨⟨#[]⟩, 0, 0, fun _ => 0, yac t.kn f.kn⟩, 2)
 else (⟨t.text, t.br, t.bn, t.ch, yac t.kn f.kn⟩, 0)
attribute [local go_sem ↓] ymd yyn
attribute [local go_sem] yeu yhi
theorem pull_str (t f : Rec) (ht : ykr t) (hf : ykr f) (h : yuf f t = true) (w : World) :
  Calls Tryz.prog 115 #[yad t, yad f] w fun e w' => e = .returned (.tuple #[yad t, .int .i64 0]) ∧ Below w.heap.size w w' := by
 have H1 := yab (fun V => yde f t ht V)
 have H2 := yab (fun V => ycu t f hf V)
 rw [h] at H1
 clear h
 unfold yad at H1 H2 ⊢
 have S0 := yab (R3.made w t f)
 clear ht hf
 go_enter Tryz.func115, Tryz.ntmps115
 go_wp2_with (first
  |(go_at_call 171; refine (H1.out _).mono ?_; (try clear k0 k1 k2 k3 k4 k5 k6 k7 k8 k9 k10 k11 k12 k13 k14 j0 j1 j2 j3 j4 j5 j6 j7 j8 j9 j10 j11 j12 j13 j14 th t9); rintro e wn ⟨rfl, hbr⟩; have S0 := yab (S0.out.more hbr); obtain ⟨k0, k1, k2, k3, k4, k5, k6, k7, k8, k9, k10, k11, k12, k13, k14⟩ := S0.out.ra.cells; obtain ⟨j0, j1, j2, j3, j4, j5, j6, j7, j8, j9, j10, j11, j12, j13, j14⟩ := S0.out.rb.cells; have th := S0.out.rz.there; have t9 := S0.out.ra.there9; (try dsimp only at k0 k1 k2 k3 k4 k5 k6 k7 k8 k9 k10 k11 k12 k13 k14); clear hbr))
 exact bodyPost_ret (yam Tryz.results115 (a := ⟨w.heap.size + 2, 0, none⟩) rfl (yan (cs := [_, _, _, _, _, _, _, _, _, _, _, _, _, _, _]) S0.out.rz.there Tryz.underlying197 rfl ycp)) rfl ⟨rfl, S0.out.bel' _⟩
theorem pull_con (t f : Rec) (ht : ykr t) (hf : ykr f) (h : yuf f t = false) (hz : ymh t f = 3) (w : World) :
  Calls Tryz.prog 115 #[yad t, yad f] w fun e w' => e = .returned (.tuple #[yad t, .int .i64 3]) ∧ Below w.heap.size w w' := by
 have H1 := yab (fun V => yde f t ht V)
 have H2 := yab (fun V => ycu t f hf V)
 rw [h] at H1
 rw [hz] at H2
 clear h hz
 unfold yad at H1 H2 ⊢
 have S0 := yab (R3.made w t f)
 clear ht hf
 go_enter Tryz.func115, Tryz.ntmps115
 go_wp2_with ((first | (go_at_call 171; refine (H1.out _).mono ?_) | (go_at_call 172; refine (H2.out _).mono ?_)); (try clear k0 k1 k2 k3 k4 k5 k6 k7 k8 k9 k10 k11 k12 k13 k14 j0 j1 j2 j3 j4 j5 j6 j7 j8 j9 j10 j11 j12 j13 j14 th t9); rintro e wn ⟨rfl, hbr⟩; (first | have S0 := yab (S0.out.more hbr) | have S0 := yab hbr); obtain ⟨k0, k1, k2, k3, k4, k5, k6, k7, k8, k9, k10, k11, k12, k13, k14⟩ := S0.out.ra.cells; obtain ⟨j0, j1, j2, j3, j4, j5, j6, j7, j8, j9, j10, j11, j12, j13, j14⟩ := S0.out.rb.cells; have th := S0.out.rz.there; have t9 := S0.out.ra.there9; (try dsimp only at k0 k1 k2 k3 k4 k5 k6 k7 k8 k9 k10 k11 k12 k13 k14); clear hbr)
 exact bodyPost_ret (yam Tryz.results115 (a := ⟨w.heap.size + 2, 0, none⟩) rfl (yan (cs := [_, _, _, _, _, _, _, _, _, _, _, _, _, _, _]) S0.out.rz.there Tryz.underlying197 rfl ycp)) rfl ⟨rfl, S0.out.bel' _⟩
theorem pull_non (t f : Rec) (ht : ykr t) (hf : ykr f) (h : yuf f t = false) (hz : ymh t f = 0) (w : World) :
  Calls Tryz.prog 115 #[yad t, yad f] w fun e w' => e = .returned (.tuple #[yad ⟨t.text, t.br, t.bn, t.ch, yac t.kn f.kn⟩, .int .i64 0]) ∧ Below w.heap.size w w' := by
 have H1 := yab (fun V => yde f t ht V)
 have H2 := yab (fun V => ycu t f hf V)
 rw [h] at H1
 rw [hz] at H2
 clear h hz
 unfold yad at H1 H2 ⊢
 have S0 := yab (R3.made w t f)
 clear ht hf
 go_enter Tryz.func115, Tryz.ntmps115
 go_wp2_with ((first | (go_at_call 171; refine (H1.out _).mono ?_) | (go_at_call 172; refine (H2.out _).mono ?_) | (go_at_call 110; refine (S0.out.hear f.kn _).mono ?_)); (try clear k0 k1 k2 k3 k4 k5 k6 k7 k8 k9 k10 k11 k12 k13 k14 j0 j1 j2 j3 j4 j5 j6 j7 j8 j9 j10 j11 j12 j13 j14 th t9); rintro e wn ⟨rfl, hbr⟩; (first | have S0 := yab (S0.out.more hbr) | have S0 := yab hbr); obtain ⟨k0, k1, k2, k3, k4, k5, k6, k7, k8, k9, k10, k11, k12, k13, k14⟩ := S0.out.ra.cells; obtain ⟨j0, j1, j2, j3, j4, j5, j6, j7, j8, j9, j10, j11, j12, j13, j14⟩ := S0.out.rb.cells; have th := S0.out.rz.there; have t9 := S0.out.ra.there9; (try dsimp only at k0 k1 k2 k3 k4 k5 k6 k7 k8 k9 k10 k11 k12 k13 k14); clear hbr)
 exact bodyPost_ret (yam Tryz.results115 (a := ⟨w.heap.size + 2, 0, none⟩) rfl (yan (cs := [_, _, _, _, _, _, _, _, _, _, _, _, _, _, _]) S0.out.rz.there Tryz.underlying197 rfl ycp)) rfl ⟨rfl, S0.out.bel' _⟩
theorem pull_rem (t f : Rec) (ht : ykr t) (hf : ykr f) (h : yuf f t = false) (hz : ymh t f = 2) (w : World) :
  Calls Tryz.prog 115 #[yad t, yad f] w fun e w' => e = .returned (.tuple #[yad ⟨⟨#[]⟩, 0, 0, fun _ => 0, yac t.kn f.kn⟩, .int .i64 2]) ∧ Below w.heap.size w w' := by
 have H1 := yab (fun V => yde f t ht V)
 have H2 := yab (fun V => ycu t f hf V)
 rw [h] at H1
 rw [hz] at H2
 clear h hz
 unfold yad at H1 H2 ⊢
 have S0 := yab (R3.made w t f)
 clear ht hf
 go_enter Tryz.func115, Tryz.ntmps115
 go_wp2_with ((first | (go_at_call 171; refine (H1.out _).mono ?_) | (go_at_call 172; refine (H2.out _).mono ?_) | (go_at_call 114; refine S0.out.remove.mono ?_) | (go_at_call 110; refine (S0.out.hear f.kn _).mono ?_)); (try clear k0 k1 k2 k3 k4 k5 k6 k7 k8 k9 k10 k11 k12 k13 k14 j0 j1 j2 j3 j4 j5 j6 j7 j8 j9 j10 j11 j12 j13 j14 th t9); rintro e wn ⟨rfl, hbr⟩; (first | have S0 := yab (S0.out.more hbr) | have S0 := yab hbr); obtain ⟨k0, k1, k2, k3, k4, k5, k6, k7, k8, k9, k10, k11, k12, k13, k14⟩ := S0.out.ra.cells; obtain ⟨j0, j1, j2, j3, j4, j5, j6, j7, j8, j9, j10, j11, j12, j13, j14⟩ := S0.out.rb.cells; have th := S0.out.rz.there; have t9 := S0.out.ra.there9; (try dsimp only at k0 k1 k2 k3 k4 k5 k6 k7 k8 k9 k10 k11 k12 k13 k14); clear hbr)
 exact bodyPost_ret (yam Tryz.results115 (a := ⟨w.heap.size + 2, 0, none⟩) rfl (yan (cs := [_, _, _, _, _, _, _, _, _, _, _, _, _, _, _]) S0.out.rz.there Tryz.underlying197 rfl ycp)) rfl ⟨rfl, S0.out.bel' _⟩
theorem pull_cop (t f : Rec) (ht : ykr t) (hf : ykr f) (h : yuf f t = false) (hz : ymh t f = 1) (w : World) :
  Calls Tryz.prog 115 #[yad t, yad f] w fun e w' => e = .returned (.tuple #[yad ⟨f.text, f.br, f.bn, f.ch, yac t.kn f.kn⟩, .int .i64 1]) ∧ Below w.heap.size w w' := by
 have H1 := yab (fun V => yde f t ht V)
 have H2 := yab (fun V => ycu t f hf V)
 rw [h] at H1
 rw [hz] at H2
 clear h hz
 unfold yad at H1 H2 ⊢
 have S0 := yab (R3.made w t f)
 clear ht hf
 go_enter Tryz.func115, Tryz.ntmps115
 go_wp2_with (first
  |(go_at_call 171; refine (H1.out _).mono ?_; (try clear k0 k1 k2 k3 k4 k5 k6 k7 k8 k9 k10 k11 k12 k13 k14 j0 j1 j2 j3 j4 j5 j6 j7 j8 j9 j10 j11 j12 j13 j14 th t9); rintro e wn ⟨rfl, hbr⟩; have S0 := yab (S0.out.more hbr); obtain ⟨k0, k1, k2, k3, k4, k5, k6, k7, k8, k9, k10, k11, k12, k13, k14⟩ := S0.out.ra.cells; obtain ⟨j0, j1, j2, j3, j4, j5, j6, j7, j8, j9, j10, j11, j12, j13, j14⟩ := S0.out.rb.cells; have th := S0.out.rz.there; have t9 := S0.out.ra.there9; (try dsimp only at k0 k1 k2 k3 k4 k5 k6 k7 k8 k9 k10 k11 k12 k13 k14); clear hbr)
  |(go_at_call 172; refine (H2.out _).mono ?_; (try clear k0 k1 k2 k3 k4 k5 k6 k7 k8 k9 k10 k11 k12 k13 k14 j0 j1 j2 j3 j4 j5 j6 j7 j8 j9 j10 j11 j12 j13 j14 th t9); rintro e wn ⟨rfl, hbr⟩; have S0 := yab (S0.out.more hbr); obtain ⟨k0, k1, k2, k3, k4, k5, k6, k7, k8, k9, k10, k11, k12, k13, k14⟩ := S0.out.ra.cells; obtain ⟨j0, j1, j2, j3, j4, j5, j6, j7, j8, j9, j10, j11, j12, j13, j14⟩ := S0.out.rb.cells; have th := S0.out.rz.there; have t9 := S0.out.ra.there9; (try dsimp only at k0 k1 k2 k3 k4 k5 k6 k7 k8 k9 k10 k11 k12 k13 k14); have S1 := yab (S0.out.setFile f.text f.br f.bn f.ch); obtain ⟨i0, i1, i2, i3, i4, i5, i6, i7, i8, i9, i10, i11, i12, i13, i14⟩ := S1.out.rb.cells; clear hbr)
  |(go_at_call 110; refine ((S0.out.setFile f.text f.br f.bn f.ch).hear f.kn _).mono ?_; (try clear k0 k1 k2 k3 k4 k5 k6 k7 k8 k9 k10 k11 k12 k13 k14 j0 j1 j2 j3 j4 j5 j6 j7 j8 j9 j10 j11 j12 j13 j14 th t9); rintro e wn ⟨rfl, hbr⟩; have S0 := yab hbr; obtain ⟨k0, k1, k2, k3, k4, k5, k6, k7, k8, k9, k10, k11, k12, k13, k14⟩ := S0.out.ra.cells; have th := S0.out.rz.there; (try dsimp only at k0 k1 k2 k3 k4 k5 k6 k7 k8 k9 k10 k11 k12 k13 k14); clear hbr))
 exact bodyPost_ret (yam Tryz.results115 (a := ⟨w.heap.size + 2, 0, none⟩) rfl (yan (cs := [_, _, _, _, _, _, _, _, _, _, _, _, _, _, _]) S0.out.rz.there Tryz.underlying197 rfl ycp)) rfl ⟨rfl, S0.out.bel' _⟩
theorem yoi (t f : Rec) (ht : ykr t) (hf : ykr f) (w : World) :
  Calls Tryz.prog 115 #[yad t, yad f] w fun e w' => e = .returned (.tuple #[yad (ydk t f).1, .int .i64 (ydk t f).2]) ∧ Below w.heap.size w w' := by
 unfold ydk
 cases hs : yuf f t
 ·rcases whatP_vals t f with hz | hz | hz | hz
  ·simpa [hz] using pull_non t f ht hf hs hz w
  ·simpa [hz] using pull_cop t f ht hf hs hz w
  ·simpa [hz] using pull_rem t f ht hf hs hz w
  ·simpa [hz] using pull_con t f ht hf hs hz w
 ·simpa using pull_str t f ht hf hs w
end Go.Proofs.K
