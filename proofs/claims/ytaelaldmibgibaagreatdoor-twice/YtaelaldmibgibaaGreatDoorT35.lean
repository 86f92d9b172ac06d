/- The pull of one record from another. -/
import Derived.Test.YtaelaldmibgibaaGreatDoorT34

set_option linter.unusedVariables false
set_option linter.unusedSimpArgs false
set_option linter.unusedSectionVars false
set_option maxHeartbeats 2000000
set_option maxRecDepth 100000

namespace Go.Proofs.YtaelaldmibgibaaGreatDoor
open Go.RowKit
theorem ydr : (Tryz.prog.info? 197).map (·.size) = some 15 := by kernel_rfl
theorem yrl (p v : Value) : Instr.storeAt 197 p v = stM 197 p v := rfl
theorem yho (w : World) (b o : Nat) (t : ByteArray) (x0 x1 x2 x3 x4 x5 x6 x7 x8 x9 x10 x11 x12 x13 : Int) (ht : w.there b o 15) :
  (stM 197 (.pointer (some ⟨b, o, none⟩)) (.agg #[.string t, .int .i64 x0, .int .i64 x1, .int .i64 x2, .int .i64 x3, .int .i64 x4, .int .i64 x5, .int .i64 x6, .int .i64 x7, .int .i64 x8, .int .i64 x9, .int .i64 x10, .int .i64 x11, .int .i64 x12, .int .i64 x13])).run Tryz.prog w = .ok () (w.setCells b o [.string t, .int .i64 x0, .int .i64 x1, .int .i64 x2, .int .i64 x3, .int .i64 x4, .int .i64 x5, .int .i64 x6, .int .i64 x7, .int .i64 x8, .int .i64 x9, .int .i64 x10, .int .i64 x11, .int .i64 x12, .int .i64 x13]) :=
 run_storeAt_mid w b o _ #[.string t, .int .i64 x0, .int .i64 x1, .int .i64 x2, .int .i64 x3, .int .i64 x4, .int .i64 x5, .int .i64 x6, .int .i64 x7, .int .i64 x8, .int .i64 x9, .int .i64 x10, .int .i64 x11, .int .i64 x12, .int .i64 x13] ht ydr (by simp [Value.oneCell'])
theorem yap.there {w : World} {b : Nat} {R : Rec} (h : yap w b R) : w.there b 0 15 := by
 obtain ⟨k0, k1, k2, k3, k4, k5, k6, k7, k8, k9, k10, k11, k12, k13, k14⟩ := h.cells
 intro j hj
 refine ⟨?_, h.fz _⟩
 match j, hj with
 |0, _ => simp [k0]
 |1, _ => simp [k1]
 |2, _ => simp [k2]
 |3, _ => simp [k3]
 |4, _ => simp [k4]
 |5, _ => simp [k5]
 |6, _ => simp [k6]
 |7, _ => simp [k7]
 |8, _ => simp [k8]
 |9, _ => simp [k9]
 |10, _ => simp [k10]
 |11, _ => simp [k11]
 |12, _ => simp [k12]
 |13, _ => simp [k13]
 |14, _ => simp [k14]
theorem yap.there9 {w : World} {b : Nat} {R : Rec} (h : yap w b R) : w.there b 0 9 := fun j hj => h.there j (by omega)
theorem yap.setFile {w : World} {b : Nat} {R : Rec} (h : yap w b R) (t : ByteArray) (x y : Int) (c : Nat → Int) : yap (w.setCells b 0 [.string t, .int .i64 x, .int .i64 y, .int .i64 (c 0), .int .i64 (c 1), .int .i64 (c 2), .int .i64 (c 3), .int .i64 (c 4), .int .i64 (c 5)]) b ⟨t, x, y, c, R.kn⟩ := by
 constructor
 simp only [World.setCells]
 have h1 := heap_setCell_same w b 0 _ _ (.string t) h.blk
 have h2 := heap_setCell_same _ b 1 _ _ (.int .i64 x) h1
 have h3 := heap_setCell_same _ b 2 _ _ (.int .i64 y) h2
 have h4 := heap_setCell_same _ b 3 _ _ (.int .i64 (c 0)) h3
 have h5 := heap_setCell_same _ b 4 _ _ (.int .i64 (c 1)) h4
 have h6 := heap_setCell_same _ b 5 _ _ (.int .i64 (c 2)) h5
 have h7 := heap_setCell_same _ b 6 _ _ (.int .i64 (c 3)) h6
 have h8 := heap_setCell_same _ b 7 _ _ (.int .i64 (c 4)) h7
 have h9 := heap_setCell_same _ b 8 _ _ (.int .i64 (c 5)) h8
 simpa using h9
structure R3 (w V : World) (a b : Rec) : Prop where
 ra : yap V w.heap.size a
 rb : yap V (w.heap.size + 1) b
 rz : yap V (w.heap.size + 2) rec0
 bel : Below w.heap.size w V
theorem R3.made (w : World) (a b : Rec) : R3 w (((w.alloc (.cells #[.string a.text, .int .i64 a.br, .int .i64 a.bn, .int .i64 (a.ch 0), .int .i64 (a.ch 1), .int .i64 (a.ch 2), .int .i64 (a.ch 3), .int .i64 (a.ch 4), .int .i64 (a.ch 5), .int .i64 (a.kn 0), .int .i64 (a.kn 1), .int .i64 (a.kn 2), .int .i64 (a.kn 3), .int .i64 (a.kn 4), .int .i64 (a.kn 5)] 197)).alloc (.cells #[.string b.text, .int .i64 b.br, .int .i64 b.bn, .int .i64 (b.ch 0), .int .i64 (b.ch 1), .int .i64 (b.ch 2), .int .i64 (b.ch 3), .int .i64 (b.ch 4), .int .i64 (b.ch 5), .int .i64 (b.kn 0), .int .i64 (b.kn 1), .int .i64 (b.kn 2), .int .i64 (b.kn 3), .int .i64 (b.kn 4), .int .i64 (b.kn 5)] 197)).alloc (.cells #[.string ⟨#[]⟩, .int .i64 0, .int .i64 0, .int .i64 0, .int .i64 0, .int .i64 0, .int .i64 0, .int .i64 0, .int .i64 0, .int .i64 0, .int .i64 0, .int .i64 0, .int .i64 0, .int .i64 0, .int .i64 0] 197)) a b := by
 have h := R2.made w a b
 generalize hV : ((w.alloc (.cells #[.string a.text, .int .i64 a.br, .int .i64 a.bn, .int .i64 (a.ch 0), .int .i64 (a.ch 1), .int .i64 (a.ch 2), .int .i64 (a.ch 3), .int .i64 (a.ch 4), .int .i64 (a.ch 5), .int .i64 (a.kn 0), .int .i64 (a.kn 1), .int .i64 (a.kn 2), .int .i64 (a.kn 3), .int .i64 (a.kn 4), .int .i64 (a.kn 5)] 197)).alloc (.cells #[.string b.text, .int .i64 b.br, .int .i64 b.bn, .int .i64 (b.ch 0), .int .i64 (b.ch 1), .int .i64 (b.ch 2), .int .i64 (b.ch 3), .int .i64 (b.ch 4), .int .i64 (b.ch 5), .int .i64 (b.kn 0), .int .i64 (b.kn 1), .int .i64 (b.kn 2), .int .i64 (b.kn 3), .int .i64 (b.kn 4), .int .i64 (b.kn 5)] 197)) = V at *
 have hs : V.heap.size = w.heap.size + 2 := by rw [← hV]; simp
 have hb := (Below.refl V.heap.size V).alloc (Nat.le_refl _) (.cells #[.string ⟨#[]⟩, .int .i64 0, .int .i64 0, .int .i64 0, .int .i64 0, .int .i64 0, .int .i64 0, .int .i64 0, .int .i64 0, .int .i64 0, .int .i64 0, .int .i64 0, .int .i64 0, .int .i64 0, .int .i64 0] 197)
 refine ⟨h.ra.more hb, h.rb.more hb, ⟨?_⟩, h.bel.trans (hb.mono (by omega))⟩
 rw [← hs]
 exact heap_alloc_new _ _
theorem R3.more {w V V' : World} {a b : Rec} (h : R3 w V a b) (hb : Below V.heap.size V V') : R3 w V' a b :=
 ⟨h.ra.more hb, h.rb.more hb, h.rz.more hb, h.bel.trans (hb.mono h.bel.size)⟩
theorem R3.onA {w V V' : World} {a a' b : Rec} (h : R3 w V a b) (hr : yap V' w.heap.size a') (hf : Fr (fun k => k = w.heap.size) V V') : R3 w V' a' b :=
 ⟨hr, h.rb.keep (hf.block _ h.rb.lt (by omega)), h.rz.keep (hf.block _ h.rz.lt (by omega)), ⟨hf.os.trans h.bel.os, hf.tape.trans h.bel.tape, hf.output.trans h.bel.output, Nat.le_trans h.bel.size hf.size, fun k hk => (hf.block k (by have := h.ra.lt; omega) (by omega)).trans (h.bel.block k hk)⟩⟩
theorem R3.setFile {w V : World} {a b : Rec} (h : R3 w V a b) (t : ByteArray) (x y : Int) (c : Nat → Int) : R3 w (V.setCells w.heap.size 0 [.string t, .int .i64 x, .int .i64 y, .int .i64 (c 0), .int .i64 (c 1), .int .i64 (c 2), .int .i64 (c 3), .int .i64 (c 4), .int .i64 (c 5)]) ⟨t, x, y, c, a.kn⟩ b :=
 h.onA (h.ra.setFile t x y c) ((Fr.refl _ _).setCells _ 0 _ (.inl rfl))
theorem R3.hear {w V : World} {a b : Rec} (h : R3 w V a b) (u : Nat → Int) (ty : TypeId) :
  Calls Tryz.prog 110 #[.pointer (some ⟨w.heap.size, 9, none⟩), .slice (some ⟨V.heap.size, 0, none⟩) 1 1] (V.alloc (.cells #[.int .i64 (u 0), .int .i64 (u 1), .int .i64 (u 2), .int .i64 (u 3), .int .i64 (u 4), .int .i64 (u 5)] ty)) fun e w' => e = .returned (.tuple #[]) ∧ R3 w w' ⟨a.text, a.br, a.bn, a.ch, yab a.kn u⟩ b := by
 have h' := h.more ((Below.refl V.heap.size V).alloc (Nat.le_refl _) (.cells #[.int .i64 (u 0), .int .i64 (u 1), .int .i64 (u 2), .int .i64 (u 3), .int .i64 (u 4), .int .i64 (u 5)] ty))
 refine (hear_rec w.heap.size V.heap.size 1 u a _ h'.ra (by simp) (yrx V u ty)).mono ?_
 rintro e w' ⟨rfl, hr, hf⟩
 exact ⟨rfl, h'.onA hr hf⟩
theorem R3.remove {w V : World} {a b : Rec} (h : R3 w V a b) :
  Calls Tryz.prog 114 #[.pointer (some ⟨w.heap.size, 0, none⟩)] V fun e w' => e = .returned (.tuple #[]) ∧ R3 w w' ⟨⟨#[]⟩, 0, 0, fun _ => 0, a.kn⟩ b := by
 refine (ypg w.heap.size a V h.ra).mono ?_
 rintro e w' ⟨rfl, hr, hf⟩
 exact ⟨rfl, h.onA hr hf⟩
theorem R3.bel' {w V : World} {a b : Rec} (h : R3 w V a b) (vs : List Value) : Below w.heap.size w (V.setCells (w.heap.size + 2) 0 vs) := by
 have hf : Fr (fun k => k = w.heap.size + 2) V (V.setCells (w.heap.size + 2) 0 vs) := (Fr.refl _ _).setCells _ 0 _ (.inl rfl)
 exact ⟨hf.os.trans h.bel.os, hf.tape.trans h.bel.tape, hf.output.trans h.bel.output, Nat.le_trans h.bel.size hf.size, fun k hk => (hf.block k (by have := h.ra.lt; omega) (by omega)).trans (h.bel.block k hk)⟩
theorem whatP_vals (t f : Rec) : ycb t f = 0 ∨ ycb t f = 1 ∨ ycb t f = 2 ∨ ycb t f = 3 := by
 unfold ycb inBo inF inT
 (repeat' split) <;> simp
def yam (t f : Rec) : Rec × Int :=
 if yfh f t = true then (t, 0) else if ycb t f = 3 then (t, 3)
 else if ycb t f = 1 then (⟨f.text, f.br, f.bn, f.ch, yab t.kn f.kn⟩, 1)
 else if ycb t f = 2 then (⟨⟨#[]⟩, 0, 0, fun _ => 0, yab t.kn f.kn⟩, 2)
 else (⟨t.text, t.br, t.bn, t.ch, yab t.kn f.kn⟩, 0)
attribute [local go_sem ↓] yrl stFile
attribute [local go_sem] yho ypl
theorem pull_str (t f : Rec) (ht : yfv t) (hf : yfv f) (h : yfh f t = true) (w : World) :
  Calls Tryz.prog 115 #[yae t, yae f] w fun e w' => e = .returned (.tuple #[yae t, .int .i64 0]) ∧ Below w.heap.size w w' := by
 have H1 := yac (fun V => ycv f t ht V)
 have H2 := yac (fun V => ycm t f hf V)
 rw [h] at H1
 clear h
 unfold yae at H1 H2 ⊢
 have S0 := yac (R3.made w t f)
 clear ht hf
 go_enter Tryz.func115, Tryz.ntmps115
 go_wp2_with (first
  |(go_at_call 171; refine (H1.out _).mono ?_; (try clear k0 k1 k2 k3 k4 k5 k6 k7 k8 k9 k10 k11 k12 k13 k14 j0 j1 j2 j3 j4 j5 j6 j7 j8 j9 j10 j11 j12 j13 j14 th t9); rintro e wn ⟨rfl, hbr⟩; have S0 := yac (S0.out.more hbr); obtain ⟨k0, k1, k2, k3, k4, k5, k6, k7, k8, k9, k10, k11, k12, k13, k14⟩ := S0.out.ra.cells; obtain ⟨j0, j1, j2, j3, j4, j5, j6, j7, j8, j9, j10, j11, j12, j13, j14⟩ := S0.out.rb.cells; have th := S0.out.rz.there; have t9 := S0.out.ra.there9; (try dsimp only at k0 k1 k2 k3 k4 k5 k6 k7 k8 k9 k10 k11 k12 k13 k14); clear hbr))
 exact bodyPost_ret (ydy Tryz.results115 (a := ⟨w.heap.size + 2, 0, none⟩) rfl (yex (cs := [_, _, _, _, _, _, _, _, _, _, _, _, _, _, _]) S0.out.rz.there Tryz.underlying197 rfl ydr)) rfl ⟨rfl, S0.out.bel' _⟩
theorem pull_con (t f : Rec) (ht : yfv t) (hf : yfv f) (h : yfh f t = false) (hz : ycb t f = 3) (w : World) :
  Calls Tryz.prog 115 #[yae t, yae f] w fun e w' => e = .returned (.tuple #[yae t, .int .i64 3]) ∧ Below w.heap.size w w' := by
 have H1 := yac (fun V => ycv f t ht V)
 have H2 := yac (fun V => ycm t f hf V)
 rw [h] at H1
 rw [hz] at H2
 clear h hz
 unfold yae at H1 H2 ⊢
 have S0 := yac (R3.made w t f)
 clear ht hf
 go_enter Tryz.func115, Tryz.ntmps115
 go_wp2_with (first
  |(go_at_call 171; refine (H1.out _).mono ?_; (try clear k0 k1 k2 k3 k4 k5 k6 k7 k8 k9 k10 k11 k12 k13 k14 j0 j1 j2 j3 j4 j5 j6 j7 j8 j9 j10 j11 j12 j13 j14 th t9); rintro e wn ⟨rfl, hbr⟩; have S0 := yac (S0.out.more hbr); obtain ⟨k0, k1, k2, k3, k4, k5, k6, k7, k8, k9, k10, k11, k12, k13, k14⟩ := S0.out.ra.cells; obtain ⟨j0, j1, j2, j3, j4, j5, j6, j7, j8, j9, j10, j11, j12, j13, j14⟩ := S0.out.rb.cells; have th := S0.out.rz.there; have t9 := S0.out.ra.there9; (try dsimp only at k0 k1 k2 k3 k4 k5 k6 k7 k8 k9 k10 k11 k12 k13 k14); clear hbr)
  |(go_at_call 172; refine (H2.out _).mono ?_; (try clear k0 k1 k2 k3 k4 k5 k6 k7 k8 k9 k10 k11 k12 k13 k14 j0 j1 j2 j3 j4 j5 j6 j7 j8 j9 j10 j11 j12 j13 j14 th t9); rintro e wn ⟨rfl, hbr⟩; have S0 := yac (S0.out.more hbr); obtain ⟨k0, k1, k2, k3, k4, k5, k6, k7, k8, k9, k10, k11, k12, k13, k14⟩ := S0.out.ra.cells; obtain ⟨j0, j1, j2, j3, j4, j5, j6, j7, j8, j9, j10, j11, j12, j13, j14⟩ := S0.out.rb.cells; have th := S0.out.rz.there; have t9 := S0.out.ra.there9; (try dsimp only at k0 k1 k2 k3 k4 k5 k6 k7 k8 k9 k10 k11 k12 k13 k14); clear hbr))
 exact bodyPost_ret (ydy Tryz.results115 (a := ⟨w.heap.size + 2, 0, none⟩) rfl (yex (cs := [_, _, _, _, _, _, _, _, _, _, _, _, _, _, _]) S0.out.rz.there Tryz.underlying197 rfl ydr)) rfl ⟨rfl, S0.out.bel' _⟩
theorem pull_non (t f : Rec) (ht : yfv t) (hf : yfv f) (h : yfh f t = false) (hz : ycb t f = 0) (w : World) :
  Calls Tryz.prog 115 #[yae t, yae f] w fun e w' => e = .returned (.tuple #[yae ⟨t.text, t.br, t.bn, t.ch, yab t.kn f.kn⟩, .int .i64 0]) ∧ Below w.heap.size w w' := by
 have H1 := yac (fun V => ycv f t ht V)
 have H2 := yac (fun V => ycm t f hf V)
 rw [h] at H1
 rw [hz] at H2
 clear h hz
 unfold yae at H1 H2 ⊢
 have S0 := yac (R3.made w t f)
 clear ht hf
 go_enter Tryz.func115, Tryz.ntmps115
 go_wp2_with (first
  |(go_at_call 171; refine (H1.out _).mono ?_; (try clear k0 k1 k2 k3 k4 k5 k6 k7 k8 k9 k10 k11 k12 k13 k14 j0 j1 j2 j3 j4 j5 j6 j7 j8 j9 j10 j11 j12 j13 j14 th t9); rintro e wn ⟨rfl, hbr⟩; have S0 := yac (S0.out.more hbr); obtain ⟨k0, k1, k2, k3, k4, k5, k6, k7, k8, k9, k10, k11, k12, k13, k14⟩ := S0.out.ra.cells; obtain ⟨j0, j1, j2, j3, j4, j5, j6, j7, j8, j9, j10, j11, j12, j13, j14⟩ := S0.out.rb.cells; have th := S0.out.rz.there; have t9 := S0.out.ra.there9; (try dsimp only at k0 k1 k2 k3 k4 k5 k6 k7 k8 k9 k10 k11 k12 k13 k14); clear hbr)
  |(go_at_call 172; refine (H2.out _).mono ?_; (try clear k0 k1 k2 k3 k4 k5 k6 k7 k8 k9 k10 k11 k12 k13 k14 j0 j1 j2 j3 j4 j5 j6 j7 j8 j9 j10 j11 j12 j13 j14 th t9); rintro e wn ⟨rfl, hbr⟩; have S0 := yac (S0.out.more hbr); obtain ⟨k0, k1, k2, k3, k4, k5, k6, k7, k8, k9, k10, k11, k12, k13, k14⟩ := S0.out.ra.cells; obtain ⟨j0, j1, j2, j3, j4, j5, j6, j7, j8, j9, j10, j11, j12, j13, j14⟩ := S0.out.rb.cells; have th := S0.out.rz.there; have t9 := S0.out.ra.there9; (try dsimp only at k0 k1 k2 k3 k4 k5 k6 k7 k8 k9 k10 k11 k12 k13 k14); clear hbr)
  |(go_at_call 110; refine (S0.out.hear f.kn _).mono ?_; (try clear k0 k1 k2 k3 k4 k5 k6 k7 k8 k9 k10 k11 k12 k13 k14 j0 j1 j2 j3 j4 j5 j6 j7 j8 j9 j10 j11 j12 j13 j14 th t9); rintro e wn ⟨rfl, hbr⟩; have S0 := yac hbr; obtain ⟨k0, k1, k2, k3, k4, k5, k6, k7, k8, k9, k10, k11, k12, k13, k14⟩ := S0.out.ra.cells; have th := S0.out.rz.there; (try dsimp only at k0 k1 k2 k3 k4 k5 k6 k7 k8 k9 k10 k11 k12 k13 k14); clear hbr))
 exact bodyPost_ret (ydy Tryz.results115 (a := ⟨w.heap.size + 2, 0, none⟩) rfl (yex (cs := [_, _, _, _, _, _, _, _, _, _, _, _, _, _, _]) S0.out.rz.there Tryz.underlying197 rfl ydr)) rfl ⟨rfl, S0.out.bel' _⟩
theorem pull_rem (t f : Rec) (ht : yfv t) (hf : yfv f) (h : yfh f t = false) (hz : ycb t f = 2) (w : World) :
  Calls Tryz.prog 115 #[yae t, yae f] w fun e w' => e = .returned (.tuple #[yae ⟨⟨#[]⟩, 0, 0, fun _ => 0, yab t.kn f.kn⟩, .int .i64 2]) ∧ Below w.heap.size w w' := by
 have H1 := yac (fun V => ycv f t ht V)
 have H2 := yac (fun V => ycm t f hf V)
 rw [h] at H1
 rw [hz] at H2
 clear h hz
 unfold yae at H1 H2 ⊢
 have S0 := yac (R3.made w t f)
 clear ht hf
 go_enter Tryz.func115, Tryz.ntmps115
 go_wp2_with (first
  |(go_at_call 171; refine (H1.out _).mono ?_; (try clear k0 k1 k2 k3 k4 k5 k6 k7 k8 k9 k10 k11 k12 k13 k14 j0 j1 j2 j3 j4 j5 j6 j7 j8 j9 j10 j11 j12 j13 j14 th t9); rintro e wn ⟨rfl, hbr⟩; have S0 := yac (S0.out.more hbr); obtain ⟨k0, k1, k2, k3, k4, k5, k6, k7, k8, k9, k10, k11, k12, k13, k14⟩ := S0.out.ra.cells; obtain ⟨j0, j1, j2, j3, j4, j5, j6, j7, j8, j9, j10, j11, j12, j13, j14⟩ := S0.out.rb.cells; have th := S0.out.rz.there; have t9 := S0.out.ra.there9; (try dsimp only at k0 k1 k2 k3 k4 k5 k6 k7 k8 k9 k10 k11 k12 k13 k14); clear hbr)
  |(go_at_call 172; refine (H2.out _).mono ?_; (try clear k0 k1 k2 k3 k4 k5 k6 k7 k8 k9 k10 k11 k12 k13 k14 j0 j1 j2 j3 j4 j5 j6 j7 j8 j9 j10 j11 j12 j13 j14 th t9); rintro e wn ⟨rfl, hbr⟩; have S0 := yac (S0.out.more hbr); obtain ⟨k0, k1, k2, k3, k4, k5, k6, k7, k8, k9, k10, k11, k12, k13, k14⟩ := S0.out.ra.cells; obtain ⟨j0, j1, j2, j3, j4, j5, j6, j7, j8, j9, j10, j11, j12, j13, j14⟩ := S0.out.rb.cells; have th := S0.out.rz.there; have t9 := S0.out.ra.there9; (try dsimp only at k0 k1 k2 k3 k4 k5 k6 k7 k8 k9 k10 k11 k12 k13 k14); clear hbr)
  |(go_at_call 114; refine (S0.out.remove).mono ?_; (try clear k0 k1 k2 k3 k4 k5 k6 k7 k8 k9 k10 k11 k12 k13 k14 j0 j1 j2 j3 j4 j5 j6 j7 j8 j9 j10 j11 j12 j13 j14 th t9); rintro e wn ⟨rfl, hbr⟩; have S0 := yac hbr; obtain ⟨k0, k1, k2, k3, k4, k5, k6, k7, k8, k9, k10, k11, k12, k13, k14⟩ := S0.out.ra.cells; obtain ⟨j0, j1, j2, j3, j4, j5, j6, j7, j8, j9, j10, j11, j12, j13, j14⟩ := S0.out.rb.cells; have th := S0.out.rz.there; have t9 := S0.out.ra.there9; (try dsimp only at k0 k1 k2 k3 k4 k5 k6 k7 k8 k9 k10 k11 k12 k13 k14); clear hbr)
  |(go_at_call 110; refine (S0.out.hear f.kn _).mono ?_; (try clear k0 k1 k2 k3 k4 k5 k6 k7 k8 k9 k10 k11 k12 k13 k14 j0 j1 j2 j3 j4 j5 j6 j7 j8 j9 j10 j11 j12 j13 j14 th t9); rintro e wn ⟨rfl, hbr⟩; have S0 := yac hbr; obtain ⟨k0, k1, k2, k3, k4, k5, k6, k7, k8, k9, k10, k11, k12, k13, k14⟩ := S0.out.ra.cells; have th := S0.out.rz.there; (try dsimp only at k0 k1 k2 k3 k4 k5 k6 k7 k8 k9 k10 k11 k12 k13 k14); clear hbr))
 exact bodyPost_ret (ydy Tryz.results115 (a := ⟨w.heap.size + 2, 0, none⟩) rfl (yex (cs := [_, _, _, _, _, _, _, _, _, _, _, _, _, _, _]) S0.out.rz.there Tryz.underlying197 rfl ydr)) rfl ⟨rfl, S0.out.bel' _⟩
theorem pull_cop (t f : Rec) (ht : yfv t) (hf : yfv f) (h : yfh f t = false) (hz : ycb t f = 1) (w : World) :
  Calls Tryz.prog 115 #[yae t, yae f] w fun e w' => e = .returned (.tuple #[yae ⟨f.text, f.br, f.bn, f.ch, yab t.kn f.kn⟩, .int .i64 1]) ∧ Below w.heap.size w w' := by
 have H1 := yac (fun V => ycv f t ht V)
 have H2 := yac (fun V => ycm t f hf V)
 rw [h] at H1
 rw [hz] at H2
 clear h hz
 unfold yae at H1 H2 ⊢
 have S0 := yac (R3.made w t f)
 clear ht hf
 go_enter Tryz.func115, Tryz.ntmps115
 go_wp2_with (first
  |(go_at_call 171; refine (H1.out _).mono ?_; (try clear k0 k1 k2 k3 k4 k5 k6 k7 k8 k9 k10 k11 k12 k13 k14 j0 j1 j2 j3 j4 j5 j6 j7 j8 j9 j10 j11 j12 j13 j14 th t9); rintro e wn ⟨rfl, hbr⟩; have S0 := yac (S0.out.more hbr); obtain ⟨k0, k1, k2, k3, k4, k5, k6, k7, k8, k9, k10, k11, k12, k13, k14⟩ := S0.out.ra.cells; obtain ⟨j0, j1, j2, j3, j4, j5, j6, j7, j8, j9, j10, j11, j12, j13, j14⟩ := S0.out.rb.cells; have th := S0.out.rz.there; have t9 := S0.out.ra.there9; (try dsimp only at k0 k1 k2 k3 k4 k5 k6 k7 k8 k9 k10 k11 k12 k13 k14); clear hbr)
  |(go_at_call 172; refine (H2.out _).mono ?_; (try clear k0 k1 k2 k3 k4 k5 k6 k7 k8 k9 k10 k11 k12 k13 k14 j0 j1 j2 j3 j4 j5 j6 j7 j8 j9 j10 j11 j12 j13 j14 th t9); rintro e wn ⟨rfl, hbr⟩; have S0 := yac (S0.out.more hbr); obtain ⟨k0, k1, k2, k3, k4, k5, k6, k7, k8, k9, k10, k11, k12, k13, k14⟩ := S0.out.ra.cells; obtain ⟨j0, j1, j2, j3, j4, j5, j6, j7, j8, j9, j10, j11, j12, j13, j14⟩ := S0.out.rb.cells; have th := S0.out.rz.there; have t9 := S0.out.ra.there9; (try dsimp only at k0 k1 k2 k3 k4 k5 k6 k7 k8 k9 k10 k11 k12 k13 k14); have S1 := yac (S0.out.setFile f.text f.br f.bn f.ch); obtain ⟨i0, i1, i2, i3, i4, i5, i6, i7, i8, i9, i10, i11, i12, i13, i14⟩ := S1.out.rb.cells; clear hbr)
  |(go_at_call 110; refine ((S0.out.setFile f.text f.br f.bn f.ch).hear f.kn _).mono ?_; (try clear k0 k1 k2 k3 k4 k5 k6 k7 k8 k9 k10 k11 k12 k13 k14 j0 j1 j2 j3 j4 j5 j6 j7 j8 j9 j10 j11 j12 j13 j14 th t9); rintro e wn ⟨rfl, hbr⟩; have S0 := yac hbr; obtain ⟨k0, k1, k2, k3, k4, k5, k6, k7, k8, k9, k10, k11, k12, k13, k14⟩ := S0.out.ra.cells; have th := S0.out.rz.there; (try dsimp only at k0 k1 k2 k3 k4 k5 k6 k7 k8 k9 k10 k11 k12 k13 k14); clear hbr))
 exact bodyPost_ret (ydy Tryz.results115 (a := ⟨w.heap.size + 2, 0, none⟩) rfl (yex (cs := [_, _, _, _, _, _, _, _, _, _, _, _, _, _, _]) S0.out.rz.there Tryz.underlying197 rfl ydr)) rfl ⟨rfl, S0.out.bel' _⟩
theorem yct (t f : Rec) (ht : yfv t) (hf : yfv f) (w : World) :
  Calls Tryz.prog 115 #[yae t, yae f] w fun e w' => e = .returned (.tuple #[yae (yam t f).1, .int .i64 (yam t f).2]) ∧ Below w.heap.size w w' := by
 unfold yam
 cases hs : yfh f t
 ·rcases whatP_vals t f with hz | hz | hz | hz
  ·simpa [hz] using pull_non t f ht hf hs hz w
  ·simpa [hz] using pull_cop t f ht hf hs hz w
  ·simpa [hz] using pull_rem t f ht hf hs hz w
  ·simpa [hz] using pull_con t f ht hf hs hz w
 ·simpa using pull_str t f ht hf hs w
end Go.Proofs.YtaelaldmibgibaaGreatDoor
