/- The pull of one record from another. A new record beside a replica's. The program's net: New. A file that was in conflict is settled. Is there room for a file of this record? A replica while a conflict is ended: two records beside the one that is changed. A replica of the program's: Resolve. -/
import Derived.Test.YtaelaldmibgibaaGreatS12
import Derived.Test.YtaelaldmibgibaaGreatS04
import Derived.Outline
import Derived.Test.YtaelaldmibgibaaGreatS09

set_option linter.unusedVariables false
set_option linter.unusedSimpArgs false
set_option linter.unusedSectionVars false

namespace Go.Proofs.YtaelaldmibgibaaGreat
open Go.RowKit

theorem size_record : (Tryz.prog.info? 120).map (·.size) = some 15 := by kernel_rfl
theorem stRecord (p v : Value) : Instr.storeAt 120 p v = stM 120 p v := rfl
theorem run_stRecord (w : World) (b o : Nat) (t : ByteArray) (x0 x1 x2 x3 x4 x5 x6 x7 x8 x9 x10 x11 x12 x13 : Int) (ht : w.there b o 15) :
    (stM 120 (.pointer (some ⟨b, o, none⟩)) (.agg #[.string t, .int .i64 x0, .int .i64 x1, .int .i64 x2, .int .i64 x3, .int .i64 x4, .int .i64 x5, .int .i64 x6, .int .i64 x7, .int .i64 x8, .int .i64 x9, .int .i64 x10, .int .i64 x11, .int .i64 x12, .int .i64 x13])).run Tryz.prog w = .ok () (w.setCells b o [.string t, .int .i64 x0, .int .i64 x1, .int .i64 x2, .int .i64 x3, .int .i64 x4, .int .i64 x5, .int .i64 x6, .int .i64 x7, .int .i64 x8, .int .i64 x9, .int .i64 x10, .int .i64 x11, .int .i64 x12, .int .i64 x13]) :=
  run_storeAt_mid w b o _ #[.string t, .int .i64 x0, .int .i64 x1, .int .i64 x2, .int .i64 x3, .int .i64 x4, .int .i64 x5, .int .i64 x6, .int .i64 x7, .int .i64 x8, .int .i64 x9, .int .i64 x10, .int .i64 x11, .int .i64 x12, .int .i64 x13] ht size_record (by simp [Value.oneCell'])
theorem RecAt.there {w : World} {b : Nat} {R : Rec} (h : RecAt w b R) : w.there b 0 15 := by
  obtain ⟨k0, k1, k2, k3, k4, k5, k6, k7, k8, k9, k10, k11, k12, k13, k14⟩ := h.cells
  intro j hj
  refine ⟨?_, h.fz _⟩
  match j, hj with
  | 0, _ => simp [k0]
  | 1, _ => simp [k1]
  | 2, _ => simp [k2]
  | 3, _ => simp [k3]
  | 4, _ => simp [k4]
  | 5, _ => simp [k5]
  | 6, _ => simp [k6]
  | 7, _ => simp [k7]
  | 8, _ => simp [k8]
  | 9, _ => simp [k9]
  | 10, _ => simp [k10]
  | 11, _ => simp [k11]
  | 12, _ => simp [k12]
  | 13, _ => simp [k13]
  | 14, _ => simp [k14]
theorem RecAt.there9 {w : World} {b : Nat} {R : Rec} (h : RecAt w b R) : w.there b 0 9 := fun j hj => h.there j (by omega)
theorem RecAt.setFile {w : World} {b : Nat} {R : Rec} (h : RecAt w b R) (t : ByteArray) (x y : Int) (c : Nat → Int) : RecAt (w.setCells b 0 [.string t, .int .i64 x, .int .i64 y, .int .i64 (c 0), .int .i64 (c 1), .int .i64 (c 2), .int .i64 (c 3), .int .i64 (c 4), .int .i64 (c 5)]) b ⟨t, x, y, c, R.kn⟩ := by
  constructor
  simp only [World.setCells]
  have h1 := heap_setCell_same w b 0 _ _ (.string t) h.blk
  have h2 := heap_setCell_same _ b 1 _ _ (.int .i64 x) h1
  have h3 := heap_setCell_same _ b 2 _ _ (.int .i64 y) h2
  have h4 := heap_setCell_same _ b 3 _ _ (.int .i64 (c 0)) h3
  have h5 := heap_setCell_same _ b 4 _ _ (.int .i64 (c 1)) h4
  have h6 := heap_setCell_same _ b 5 _ _ (.int .i64 (c 2)) h5
  have h7 := heap_setCell_same _ b 6 _ _ (.int .i64 (c 3)) h6
  have h8 := heap_setCell_same _ b 7 _ _ (.int .i64 (c 4)) h7
  have h9 := heap_setCell_same _ b 8 _ _ (.int .i64 (c 5)) h8
  simpa using h9
structure R3 (w V : World) (a b : Rec) : Prop where
  ra : RecAt V w.heap.size a
  rb : RecAt V (w.heap.size + 1) b
  rz : RecAt V (w.heap.size + 2) rec0
  bel : Below w.heap.size w V
theorem R3.made (w : World) (a b : Rec) : R3 w (((w.alloc (.cells #[.string a.text, .int .i64 a.br, .int .i64 a.bn, .int .i64 (a.ch 0), .int .i64 (a.ch 1), .int .i64 (a.ch 2), .int .i64 (a.ch 3), .int .i64 (a.ch 4), .int .i64 (a.ch 5), .int .i64 (a.kn 0), .int .i64 (a.kn 1), .int .i64 (a.kn 2), .int .i64 (a.kn 3), .int .i64 (a.kn 4), .int .i64 (a.kn 5)] 120)).alloc (.cells #[.string b.text, .int .i64 b.br, .int .i64 b.bn, .int .i64 (b.ch 0), .int .i64 (b.ch 1), .int .i64 (b.ch 2), .int .i64 (b.ch 3), .int .i64 (b.ch 4), .int .i64 (b.ch 5), .int .i64 (b.kn 0), .int .i64 (b.kn 1), .int .i64 (b.kn 2), .int .i64 (b.kn 3), .int .i64 (b.kn 4), .int .i64 (b.kn 5)] 120)).alloc (.cells #[.string ⟨#[]⟩, .int .i64 0, .int .i64 0, .int .i64 0, .int .i64 0, .int .i64 0, .int .i64 0, .int .i64 0, .int .i64 0, .int .i64 0, .int .i64 0, .int .i64 0, .int .i64 0, .int .i64 0, .int .i64 0] 120)) a b := by
  have h := R2.made w a b
  generalize hV : ((w.alloc (.cells #[.string a.text, .int .i64 a.br, .int .i64 a.bn, .int .i64 (a.ch 0), .int .i64 (a.ch 1), .int .i64 (a.ch 2), .int .i64 (a.ch 3), .int .i64 (a.ch 4), .int .i64 (a.ch 5), .int .i64 (a.kn 0), .int .i64 (a.kn 1), .int .i64 (a.kn 2), .int .i64 (a.kn 3), .int .i64 (a.kn 4), .int .i64 (a.kn 5)] 120)).alloc (.cells #[.string b.text, .int .i64 b.br, .int .i64 b.bn, .int .i64 (b.ch 0), .int .i64 (b.ch 1), .int .i64 (b.ch 2), .int .i64 (b.ch 3), .int .i64 (b.ch 4), .int .i64 (b.ch 5), .int .i64 (b.kn 0), .int .i64 (b.kn 1), .int .i64 (b.kn 2), .int .i64 (b.kn 3), .int .i64 (b.kn 4), .int .i64 (b.kn 5)] 120)) = V at *
  have hs : V.heap.size = w.heap.size + 2 := by rw [← hV]; simp
  have hb := (Below.refl V.heap.size V).alloc (Nat.le_refl _) (.cells #[.string ⟨#[]⟩, .int .i64 0, .int .i64 0, .int .i64 0, .int .i64 0, .int .i64 0, .int .i64 0, .int .i64 0, .int .i64 0, .int .i64 0, .int .i64 0, .int .i64 0, .int .i64 0, .int .i64 0, .int .i64 0] 120)
  refine ⟨h.ra.more hb, h.rb.more hb, ⟨?_⟩, h.bel.trans (hb.mono (by omega))⟩
  rw [← hs]
  exact heap_alloc_new _ _
theorem R3.more {w V V' : World} {a b : Rec} (h : R3 w V a b) (hb : Below V.heap.size V V') : R3 w V' a b :=
  ⟨h.ra.more hb, h.rb.more hb, h.rz.more hb, h.bel.trans (hb.mono h.bel.size)⟩
theorem R3.onA {w V V' : World} {a a' b : Rec} (h : R3 w V a b) (hr : RecAt V' w.heap.size a') (hf : Fr (fun k => k = w.heap.size) V V') : R3 w V' a' b :=
  ⟨hr, h.rb.keep (hf.block _ h.rb.lt (by omega)), h.rz.keep (hf.block _ h.rz.lt (by omega)), ⟨hf.os.trans h.bel.os, hf.tape.trans h.bel.tape, hf.output.trans h.bel.output, Nat.le_trans h.bel.size hf.size, fun k hk => (hf.block k (by have := h.ra.lt; omega) (by omega)).trans (h.bel.block k hk)⟩⟩
theorem R3.setFile {w V : World} {a b : Rec} (h : R3 w V a b) (t : ByteArray) (x y : Int) (c : Nat → Int) : R3 w (V.setCells w.heap.size 0 [.string t, .int .i64 x, .int .i64 y, .int .i64 (c 0), .int .i64 (c 1), .int .i64 (c 2), .int .i64 (c 3), .int .i64 (c 4), .int .i64 (c 5)]) ⟨t, x, y, c, a.kn⟩ b :=
  h.onA (h.ra.setFile t x y c) ((Fr.refl _ _).setCells _ 0 _ (.inl rfl))
theorem R3.hear {w V : World} {a b : Rec} (h : R3 w V a b) (u : Nat → Int) (ty : TypeId) :
    Calls Tryz.prog 54 #[.pointer (some ⟨w.heap.size, 9, none⟩), .slice (some ⟨V.heap.size, 0, none⟩) 1 1] (V.alloc (.cells #[.int .i64 (u 0), .int .i64 (u 1), .int .i64 (u 2), .int .i64 (u 3), .int .i64 (u 4), .int .i64 (u 5)] ty)) fun e w' => e = .returned (.tuple #[]) ∧ R3 w w' ⟨a.text, a.br, a.bn, a.ch, gboth a.kn u⟩ b := by
  have h' := h.more ((Below.refl V.heap.size V).alloc (Nat.le_refl _) (.cells #[.int .i64 (u 0), .int .i64 (u 1), .int .i64 (u 2), .int .i64 (u 3), .int .i64 (u 4), .int .i64 (u 5)] ty))
  refine (hear_rec w.heap.size V.heap.size 1 u a _ h'.ra (by simp) (built6 V u ty)).mono ?_
  rintro e w' ⟨rfl, hr, hf⟩
  exact ⟨rfl, h'.onA hr hf⟩
theorem R3.remove {w V : World} {a b : Rec} (h : R3 w V a b) :
    Calls Tryz.prog 61 #[.pointer (some ⟨w.heap.size, 0, none⟩)] V fun e w' => e = .returned (.tuple #[]) ∧ R3 w w' ⟨⟨#[]⟩, 0, 0, fun _ => 0, a.kn⟩ b := by
  refine (remove_rec w.heap.size a V h.ra).mono ?_
  rintro e w' ⟨rfl, hr, hf⟩
  exact ⟨rfl, h.onA hr hf⟩
theorem R3.bel' {w V : World} {a b : Rec} (h : R3 w V a b) (vs : List Value) : Below w.heap.size w (V.setCells (w.heap.size + 2) 0 vs) := by
  have hf : Fr (fun k => k = w.heap.size + 2) V (V.setCells (w.heap.size + 2) 0 vs) := (Fr.refl _ _).setCells _ 0 _ (.inl rfl)
  exact ⟨hf.os.trans h.bel.os, hf.tape.trans h.bel.tape, hf.output.trans h.bel.output, Nat.le_trans h.bel.size hf.size, fun k hk => (hf.block k (by have := h.ra.lt; omega) (by omega)).trans (h.bel.block k hk)⟩
theorem whatP_vals (t f : Rec) : whatP t f = 0 ∨ whatP t f = 1 ∨ whatP t f = 2 ∨ whatP t f = 3 := by
  unfold whatP inB inF inT
  (repeat' split) <;> simp
def pullR (t f : Rec) : Rec × Int :=
  if isStr f t = true then (t, 0) else if whatP t f = 3 then (t, 3)
  else if whatP t f = 1 then (⟨f.text, f.br, f.bn, f.ch, gboth t.kn f.kn⟩, 1)
  else if whatP t f = 2 then (⟨⟨#[]⟩, 0, 0, fun _ => 0, gboth t.kn f.kn⟩, 2)
  else (⟨t.text, t.br, t.bn, t.ch, gboth t.kn f.kn⟩, 0)
attribute [local go_sem ↓] stRecord stFile
attribute [local go_sem] run_stRecord run_stFile
set_option maxRecDepth 100000 in
set_option maxHeartbeats 2000000 in
theorem pull_str (t f : Rec) (ht : brOk t) (hf : brOk f) (h : isStr f t = true) (w : World) :
    Calls Tryz.prog 65 #[recVal t, recVal f] w fun e w' => e = .returned (.tuple #[recVal t, .int .i64 0]) ∧ Below w.heap.size w w' := by
  have H1 := hide (fun V => isStranger_any f t ht V)
  have H2 := hide (fun V => whatPullDoes_any t f hf V)
  rw [h] at H1
  clear h
  unfold recVal at H1 H2 ⊢
  have S0 := hide (R3.made w t f)
  clear ht hf
  go_enter Tryz.func65, Tryz.ntmps65
  go_wp2_with (first
    | (go_at_call 78; refine (H1.out _).mono ?_; (try clear k0 k1 k2 k3 k4 k5 k6 k7 k8 k9 k10 k11 k12 k13 k14 j0 j1 j2 j3 j4 j5 j6 j7 j8 j9 j10 j11 j12 j13 j14 th t9); rintro e wn ⟨rfl, hbr⟩; have S0 := hide (S0.out.more hbr); obtain ⟨k0, k1, k2, k3, k4, k5, k6, k7, k8, k9, k10, k11, k12, k13, k14⟩ := S0.out.ra.cells; obtain ⟨j0, j1, j2, j3, j4, j5, j6, j7, j8, j9, j10, j11, j12, j13, j14⟩ := S0.out.rb.cells; have th := S0.out.rz.there; have t9 := S0.out.ra.there9; (try dsimp only at k0 k1 k2 k3 k4 k5 k6 k7 k8 k9 k10 k11 k12 k13 k14); clear hbr))
  exact bodyPost_ret (ret_cell_tmp Tryz.results65 (a := ⟨w.heap.size + 2, 0, none⟩) rfl (load_stored (cs := [_, _, _, _, _, _, _, _, _, _, _, _, _, _, _]) S0.out.rz.there Tryz.underlying120 rfl size_record)) rfl ⟨rfl, S0.out.bel' _⟩
set_option maxRecDepth 100000 in
set_option maxHeartbeats 2000000 in
theorem pull_con (t f : Rec) (ht : brOk t) (hf : brOk f) (h : isStr f t = false) (hz : whatP t f = 3) (w : World) :
    Calls Tryz.prog 65 #[recVal t, recVal f] w fun e w' => e = .returned (.tuple #[recVal t, .int .i64 3]) ∧ Below w.heap.size w w' := by
  have H1 := hide (fun V => isStranger_any f t ht V)
  have H2 := hide (fun V => whatPullDoes_any t f hf V)
  rw [h] at H1
  rw [hz] at H2
  clear h hz
  unfold recVal at H1 H2 ⊢
  have S0 := hide (R3.made w t f)
  clear ht hf
  go_enter Tryz.func65, Tryz.ntmps65
  go_wp2_with (first
    | (go_at_call 78; refine (H1.out _).mono ?_; (try clear k0 k1 k2 k3 k4 k5 k6 k7 k8 k9 k10 k11 k12 k13 k14 j0 j1 j2 j3 j4 j5 j6 j7 j8 j9 j10 j11 j12 j13 j14 th t9); rintro e wn ⟨rfl, hbr⟩; have S0 := hide (S0.out.more hbr); obtain ⟨k0, k1, k2, k3, k4, k5, k6, k7, k8, k9, k10, k11, k12, k13, k14⟩ := S0.out.ra.cells; obtain ⟨j0, j1, j2, j3, j4, j5, j6, j7, j8, j9, j10, j11, j12, j13, j14⟩ := S0.out.rb.cells; have th := S0.out.rz.there; have t9 := S0.out.ra.there9; (try dsimp only at k0 k1 k2 k3 k4 k5 k6 k7 k8 k9 k10 k11 k12 k13 k14); clear hbr)
    | (go_at_call 79; refine (H2.out _).mono ?_; (try clear k0 k1 k2 k3 k4 k5 k6 k7 k8 k9 k10 k11 k12 k13 k14 j0 j1 j2 j3 j4 j5 j6 j7 j8 j9 j10 j11 j12 j13 j14 th t9); rintro e wn ⟨rfl, hbr⟩; have S0 := hide (S0.out.more hbr); obtain ⟨k0, k1, k2, k3, k4, k5, k6, k7, k8, k9, k10, k11, k12, k13, k14⟩ := S0.out.ra.cells; obtain ⟨j0, j1, j2, j3, j4, j5, j6, j7, j8, j9, j10, j11, j12, j13, j14⟩ := S0.out.rb.cells; have th := S0.out.rz.there; have t9 := S0.out.ra.there9; (try dsimp only at k0 k1 k2 k3 k4 k5 k6 k7 k8 k9 k10 k11 k12 k13 k14); clear hbr))
  exact bodyPost_ret (ret_cell_tmp Tryz.results65 (a := ⟨w.heap.size + 2, 0, none⟩) rfl (load_stored (cs := [_, _, _, _, _, _, _, _, _, _, _, _, _, _, _]) S0.out.rz.there Tryz.underlying120 rfl size_record)) rfl ⟨rfl, S0.out.bel' _⟩
set_option maxRecDepth 100000 in
set_option maxHeartbeats 2000000 in
theorem pull_non (t f : Rec) (ht : brOk t) (hf : brOk f) (h : isStr f t = false) (hz : whatP t f = 0) (w : World) :
    Calls Tryz.prog 65 #[recVal t, recVal f] w fun e w' => e = .returned (.tuple #[recVal ⟨t.text, t.br, t.bn, t.ch, gboth t.kn f.kn⟩, .int .i64 0]) ∧ Below w.heap.size w w' := by
  have H1 := hide (fun V => isStranger_any f t ht V)
  have H2 := hide (fun V => whatPullDoes_any t f hf V)
  rw [h] at H1
  rw [hz] at H2
  clear h hz
  unfold recVal at H1 H2 ⊢
  have S0 := hide (R3.made w t f)
  clear ht hf
  go_enter Tryz.func65, Tryz.ntmps65
  go_wp2_with (first
    | (go_at_call 78; refine (H1.out _).mono ?_; (try clear k0 k1 k2 k3 k4 k5 k6 k7 k8 k9 k10 k11 k12 k13 k14 j0 j1 j2 j3 j4 j5 j6 j7 j8 j9 j10 j11 j12 j13 j14 th t9); rintro e wn ⟨rfl, hbr⟩; have S0 := hide (S0.out.more hbr); obtain ⟨k0, k1, k2, k3, k4, k5, k6, k7, k8, k9, k10, k11, k12, k13, k14⟩ := S0.out.ra.cells; obtain ⟨j0, j1, j2, j3, j4, j5, j6, j7, j8, j9, j10, j11, j12, j13, j14⟩ := S0.out.rb.cells; have th := S0.out.rz.there; have t9 := S0.out.ra.there9; (try dsimp only at k0 k1 k2 k3 k4 k5 k6 k7 k8 k9 k10 k11 k12 k13 k14); clear hbr)
    | (go_at_call 79; refine (H2.out _).mono ?_; (try clear k0 k1 k2 k3 k4 k5 k6 k7 k8 k9 k10 k11 k12 k13 k14 j0 j1 j2 j3 j4 j5 j6 j7 j8 j9 j10 j11 j12 j13 j14 th t9); rintro e wn ⟨rfl, hbr⟩; have S0 := hide (S0.out.more hbr); obtain ⟨k0, k1, k2, k3, k4, k5, k6, k7, k8, k9, k10, k11, k12, k13, k14⟩ := S0.out.ra.cells; obtain ⟨j0, j1, j2, j3, j4, j5, j6, j7, j8, j9, j10, j11, j12, j13, j14⟩ := S0.out.rb.cells; have th := S0.out.rz.there; have t9 := S0.out.ra.there9; (try dsimp only at k0 k1 k2 k3 k4 k5 k6 k7 k8 k9 k10 k11 k12 k13 k14); clear hbr)
    | (go_at_call 54; refine (S0.out.hear f.kn _).mono ?_; (try clear k0 k1 k2 k3 k4 k5 k6 k7 k8 k9 k10 k11 k12 k13 k14 j0 j1 j2 j3 j4 j5 j6 j7 j8 j9 j10 j11 j12 j13 j14 th t9); rintro e wn ⟨rfl, hbr⟩; have S0 := hide hbr; obtain ⟨k0, k1, k2, k3, k4, k5, k6, k7, k8, k9, k10, k11, k12, k13, k14⟩ := S0.out.ra.cells; have th := S0.out.rz.there; (try dsimp only at k0 k1 k2 k3 k4 k5 k6 k7 k8 k9 k10 k11 k12 k13 k14); clear hbr))
  exact bodyPost_ret (ret_cell_tmp Tryz.results65 (a := ⟨w.heap.size + 2, 0, none⟩) rfl (load_stored (cs := [_, _, _, _, _, _, _, _, _, _, _, _, _, _, _]) S0.out.rz.there Tryz.underlying120 rfl size_record)) rfl ⟨rfl, S0.out.bel' _⟩
set_option maxRecDepth 100000 in
set_option maxHeartbeats 2000000 in
theorem pull_rem (t f : Rec) (ht : brOk t) (hf : brOk f) (h : isStr f t = false) (hz : whatP t f = 2) (w : World) :
    Calls Tryz.prog 65 #[recVal t, recVal f] w fun e w' => e = .returned (.tuple #[recVal ⟨⟨#[]⟩, 0, 0, fun _ => 0, gboth t.kn f.kn⟩, .int .i64 2]) ∧ Below w.heap.size w w' := by
  have H1 := hide (fun V => isStranger_any f t ht V)
  have H2 := hide (fun V => whatPullDoes_any t f hf V)
  rw [h] at H1
  rw [hz] at H2
  clear h hz
  unfold recVal at H1 H2 ⊢
  have S0 := hide (R3.made w t f)
  clear ht hf
  go_enter Tryz.func65, Tryz.ntmps65
  go_wp2_with (first
    | (go_at_call 78; refine (H1.out _).mono ?_; (try clear k0 k1 k2 k3 k4 k5 k6 k7 k8 k9 k10 k11 k12 k13 k14 j0 j1 j2 j3 j4 j5 j6 j7 j8 j9 j10 j11 j12 j13 j14 th t9); rintro e wn ⟨rfl, hbr⟩; have S0 := hide (S0.out.more hbr); obtain ⟨k0, k1, k2, k3, k4, k5, k6, k7, k8, k9, k10, k11, k12, k13, k14⟩ := S0.out.ra.cells; obtain ⟨j0, j1, j2, j3, j4, j5, j6, j7, j8, j9, j10, j11, j12, j13, j14⟩ := S0.out.rb.cells; have th := S0.out.rz.there; have t9 := S0.out.ra.there9; (try dsimp only at k0 k1 k2 k3 k4 k5 k6 k7 k8 k9 k10 k11 k12 k13 k14); clear hbr)
    | (go_at_call 79; refine (H2.out _).mono ?_; (try clear k0 k1 k2 k3 k4 k5 k6 k7 k8 k9 k10 k11 k12 k13 k14 j0 j1 j2 j3 j4 j5 j6 j7 j8 j9 j10 j11 j12 j13 j14 th t9); rintro e wn ⟨rfl, hbr⟩; have S0 := hide (S0.out.more hbr); obtain ⟨k0, k1, k2, k3, k4, k5, k6, k7, k8, k9, k10, k11, k12, k13, k14⟩ := S0.out.ra.cells; obtain ⟨j0, j1, j2, j3, j4, j5, j6, j7, j8, j9, j10, j11, j12, j13, j14⟩ := S0.out.rb.cells; have th := S0.out.rz.there; have t9 := S0.out.ra.there9; (try dsimp only at k0 k1 k2 k3 k4 k5 k6 k7 k8 k9 k10 k11 k12 k13 k14); clear hbr)
    | (go_at_call 61; refine (S0.out.remove).mono ?_; (try clear k0 k1 k2 k3 k4 k5 k6 k7 k8 k9 k10 k11 k12 k13 k14 j0 j1 j2 j3 j4 j5 j6 j7 j8 j9 j10 j11 j12 j13 j14 th t9); rintro e wn ⟨rfl, hbr⟩; have S0 := hide hbr; obtain ⟨k0, k1, k2, k3, k4, k5, k6, k7, k8, k9, k10, k11, k12, k13, k14⟩ := S0.out.ra.cells; obtain ⟨j0, j1, j2, j3, j4, j5, j6, j7, j8, j9, j10, j11, j12, j13, j14⟩ := S0.out.rb.cells; have th := S0.out.rz.there; have t9 := S0.out.ra.there9; (try dsimp only at k0 k1 k2 k3 k4 k5 k6 k7 k8 k9 k10 k11 k12 k13 k14); clear hbr)
    | (go_at_call 54; refine (S0.out.hear f.kn _).mono ?_; (try clear k0 k1 k2 k3 k4 k5 k6 k7 k8 k9 k10 k11 k12 k13 k14 j0 j1 j2 j3 j4 j5 j6 j7 j8 j9 j10 j11 j12 j13 j14 th t9); rintro e wn ⟨rfl, hbr⟩; have S0 := hide hbr; obtain ⟨k0, k1, k2, k3, k4, k5, k6, k7, k8, k9, k10, k11, k12, k13, k14⟩ := S0.out.ra.cells; have th := S0.out.rz.there; (try dsimp only at k0 k1 k2 k3 k4 k5 k6 k7 k8 k9 k10 k11 k12 k13 k14); clear hbr))
  exact bodyPost_ret (ret_cell_tmp Tryz.results65 (a := ⟨w.heap.size + 2, 0, none⟩) rfl (load_stored (cs := [_, _, _, _, _, _, _, _, _, _, _, _, _, _, _]) S0.out.rz.there Tryz.underlying120 rfl size_record)) rfl ⟨rfl, S0.out.bel' _⟩
set_option maxRecDepth 100000 in
set_option maxHeartbeats 2000000 in
theorem pull_cop (t f : Rec) (ht : brOk t) (hf : brOk f) (h : isStr f t = false) (hz : whatP t f = 1) (w : World) :
    Calls Tryz.prog 65 #[recVal t, recVal f] w fun e w' => e = .returned (.tuple #[recVal ⟨f.text, f.br, f.bn, f.ch, gboth t.kn f.kn⟩, .int .i64 1]) ∧ Below w.heap.size w w' := by
  have H1 := hide (fun V => isStranger_any f t ht V)
  have H2 := hide (fun V => whatPullDoes_any t f hf V)
  rw [h] at H1
  rw [hz] at H2
  clear h hz
  unfold recVal at H1 H2 ⊢
  have S0 := hide (R3.made w t f)
  clear ht hf
  go_enter Tryz.func65, Tryz.ntmps65
  go_wp2_with (first
    | (go_at_call 78; refine (H1.out _).mono ?_; (try clear k0 k1 k2 k3 k4 k5 k6 k7 k8 k9 k10 k11 k12 k13 k14 j0 j1 j2 j3 j4 j5 j6 j7 j8 j9 j10 j11 j12 j13 j14 th t9); rintro e wn ⟨rfl, hbr⟩; have S0 := hide (S0.out.more hbr); obtain ⟨k0, k1, k2, k3, k4, k5, k6, k7, k8, k9, k10, k11, k12, k13, k14⟩ := S0.out.ra.cells; obtain ⟨j0, j1, j2, j3, j4, j5, j6, j7, j8, j9, j10, j11, j12, j13, j14⟩ := S0.out.rb.cells; have th := S0.out.rz.there; have t9 := S0.out.ra.there9; (try dsimp only at k0 k1 k2 k3 k4 k5 k6 k7 k8 k9 k10 k11 k12 k13 k14); clear hbr)
    | (go_at_call 79; refine (H2.out _).mono ?_; (try clear k0 k1 k2 k3 k4 k5 k6 k7 k8 k9 k10 k11 k12 k13 k14 j0 j1 j2 j3 j4 j5 j6 j7 j8 j9 j10 j11 j12 j13 j14 th t9); rintro e wn ⟨rfl, hbr⟩; have S0 := hide (S0.out.more hbr); obtain ⟨k0, k1, k2, k3, k4, k5, k6, k7, k8, k9, k10, k11, k12, k13, k14⟩ := S0.out.ra.cells; obtain ⟨j0, j1, j2, j3, j4, j5, j6, j7, j8, j9, j10, j11, j12, j13, j14⟩ := S0.out.rb.cells; have th := S0.out.rz.there; have t9 := S0.out.ra.there9; (try dsimp only at k0 k1 k2 k3 k4 k5 k6 k7 k8 k9 k10 k11 k12 k13 k14); have S1 := hide (S0.out.setFile f.text f.br f.bn f.ch); obtain ⟨i0, i1, i2, i3, i4, i5, i6, i7, i8, i9, i10, i11, i12, i13, i14⟩ := S1.out.rb.cells; clear hbr)
    | (go_at_call 54; refine ((S0.out.setFile f.text f.br f.bn f.ch).hear f.kn _).mono ?_; (try clear k0 k1 k2 k3 k4 k5 k6 k7 k8 k9 k10 k11 k12 k13 k14 j0 j1 j2 j3 j4 j5 j6 j7 j8 j9 j10 j11 j12 j13 j14 th t9); rintro e wn ⟨rfl, hbr⟩; have S0 := hide hbr; obtain ⟨k0, k1, k2, k3, k4, k5, k6, k7, k8, k9, k10, k11, k12, k13, k14⟩ := S0.out.ra.cells; have th := S0.out.rz.there; (try dsimp only at k0 k1 k2 k3 k4 k5 k6 k7 k8 k9 k10 k11 k12 k13 k14); clear hbr))
  exact bodyPost_ret (ret_cell_tmp Tryz.results65 (a := ⟨w.heap.size + 2, 0, none⟩) rfl (load_stored (cs := [_, _, _, _, _, _, _, _, _, _, _, _, _, _, _]) S0.out.rz.there Tryz.underlying120 rfl size_record)) rfl ⟨rfl, S0.out.bel' _⟩
theorem pull_any (t f : Rec) (ht : brOk t) (hf : brOk f) (w : World) :
    Calls Tryz.prog 65 #[recVal t, recVal f] w fun e w' => e = .returned (.tuple #[recVal (pullR t f).1, .int .i64 (pullR t f).2]) ∧ Below w.heap.size w w' := by
  unfold pullR
  cases hs : isStr f t
  · rcases whatP_vals t f with hz | hz | hz | hz
    · simpa [hz] using pull_non t f ht hf hs hz w
    · simpa [hz] using pull_cop t f ht hf hs hz w
    · simpa [hz] using pull_rem t f ht hf hs hz w
    · simpa [hz] using pull_con t f ht hf hs hz w
  · simpa using pull_str t f ht hf hs w
end Go.Proofs.YtaelaldmibgibaaGreat

namespace Go.Proofs.YtaelaldmibgibaaGreat
open Go.RowKit Go.Maps

theorem pullR_ok (t f : Rec) (h0 : 0 ≤ t.bn) (hb : brOk t) (h0' : 0 ≤ f.bn) (hb' : brOk f) : 0 ≤ (pullR t f).1.bn ∧ brOk (pullR t f).1 := by
  unfold pullR brOk at *
  (repeat' split) <;> first | exact ⟨h0, hb⟩ | exact ⟨h0', hb'⟩ | exact ⟨Int.le_refl 0, 0, by omega, rfl⟩
structure Pp (w V : World) (b : Nat) (R : Rec) : Prop where
  rc : RecAt V b R
  ge : w.heap.size ≤ b
  bel : Below w.heap.size w V
theorem Pp.more {w V V' : World} {b : Nat} {R : Rec} (h : Pp w V b R) (hb : Below V.heap.size V V') : Pp w V' b R := ⟨h.rc.more hb, h.ge, h.bel.trans (hb.mono h.bel.size)⟩
theorem Pp.drewN {w V : World} {b : Nat} {R : Rec} (h : Pp w V b R) (n : Nat) : Pp w (V.drewN n) b R := h.more ⟨rfl, rfl, rfl, Nat.le_refl _, fun _ _ => rfl⟩
theorem Pp.drew {w V : World} {b : Nat} {R : Rec} (h : Pp w V b R) : Pp w V.drew b R := h.more ⟨rfl, rfl, rfl, Nat.le_refl _, fun _ _ => rfl⟩
theorem Pp.zero {w V : World} (hb : Below w.heap.size w V) : Pp w (V.alloc (.cells #[.string ⟨#[]⟩, .int .i64 0, .int .i64 0, .int .i64 0, .int .i64 0, .int .i64 0, .int .i64 0, .int .i64 0, .int .i64 0, .int .i64 0, .int .i64 0, .int .i64 0, .int .i64 0, .int .i64 0, .int .i64 0] 120)) V.heap.size rec0 := ⟨⟨heap_alloc_new _ _⟩, hb.size, hb.alloc hb.size _⟩
theorem RecAt.setAll {w : World} {b : Nat} {R : Rec} (h : RecAt w b R) (S : Rec) : RecAt (w.setCells b 0 [.string S.text, .int .i64 S.br, .int .i64 S.bn, .int .i64 (S.ch 0), .int .i64 (S.ch 1), .int .i64 (S.ch 2), .int .i64 (S.ch 3), .int .i64 (S.ch 4), .int .i64 (S.ch 5), .int .i64 (S.kn 0), .int .i64 (S.kn 1), .int .i64 (S.kn 2), .int .i64 (S.kn 3), .int .i64 (S.kn 4), .int .i64 (S.kn 5)]) b S := by
  constructor
  simp only [World.setCells]
  have h1 := heap_setCell_same w b 0 _ _ (.string S.text) h.blk
  have h2 := heap_setCell_same _ b 1 _ _ (.int .i64 S.br) h1
  have h3 := heap_setCell_same _ b 2 _ _ (.int .i64 S.bn) h2
  have h4 := heap_setCell_same _ b 3 _ _ (.int .i64 (S.ch 0)) h3
  have h5 := heap_setCell_same _ b 4 _ _ (.int .i64 (S.ch 1)) h4
  have h6 := heap_setCell_same _ b 5 _ _ (.int .i64 (S.ch 2)) h5
  have h7 := heap_setCell_same _ b 6 _ _ (.int .i64 (S.ch 3)) h6
  have h8 := heap_setCell_same _ b 7 _ _ (.int .i64 (S.ch 4)) h7
  have h9 := heap_setCell_same _ b 8 _ _ (.int .i64 (S.ch 5)) h8
  have h10 := heap_setCell_same _ b 9 _ _ (.int .i64 (S.kn 0)) h9
  have h11 := heap_setCell_same _ b 10 _ _ (.int .i64 (S.kn 1)) h10
  have h12 := heap_setCell_same _ b 11 _ _ (.int .i64 (S.kn 2)) h11
  have h13 := heap_setCell_same _ b 12 _ _ (.int .i64 (S.kn 3)) h12
  have h14 := heap_setCell_same _ b 13 _ _ (.int .i64 (S.kn 4)) h13
  have h15 := heap_setCell_same _ b 14 _ _ (.int .i64 (S.kn 5)) h14
  simpa using h15
theorem Pp.set {w V : World} {b : Nat} {R : Rec} (h : Pp w V b R) (S : Rec) : Pp w (V.setCells b 0 [.string S.text, .int .i64 S.br, .int .i64 S.bn, .int .i64 (S.ch 0), .int .i64 (S.ch 1), .int .i64 (S.ch 2), .int .i64 (S.ch 3), .int .i64 (S.ch 4), .int .i64 (S.ch 5), .int .i64 (S.kn 0), .int .i64 (S.kn 1), .int .i64 (S.kn 2), .int .i64 (S.kn 3), .int .i64 (S.kn 4), .int .i64 (S.kn 5)]) b S := by
  have hf : Fr (fun k => k = b) V (V.setCells b 0 [.string S.text, .int .i64 S.br, .int .i64 S.bn, .int .i64 (S.ch 0), .int .i64 (S.ch 1), .int .i64 (S.ch 2), .int .i64 (S.ch 3), .int .i64 (S.ch 4), .int .i64 (S.ch 5), .int .i64 (S.kn 0), .int .i64 (S.kn 1), .int .i64 (S.kn 2), .int .i64 (S.kn 3), .int .i64 (S.kn 4), .int .i64 (S.kn 5)]) := (Fr.refl _ _).setCells _ 0 _ (.inl rfl)
  exact ⟨h.rc.setAll S, h.ge, ⟨hf.os.trans h.bel.os, hf.tape.trans h.bel.tape, hf.output.trans h.bel.output, Nat.le_trans h.bel.size hf.size, fun k hk => (hf.block k (by have := h.rc.lt; have := h.ge; omega) (by have := h.ge; omega)).trans (h.bel.block k hk)⟩⟩
theorem Pp.other {w V : World} {b i : Nat} {R : Rec} (h : Pp w V b R) (hi : w.heap.size ≤ i) (hn : b ≠ i) (vs : List Value) : Pp w (V.setCells i 0 vs) b R := by
  have hf : Fr (fun k => k = i) V (V.setCells i 0 vs) := (Fr.refl _ _).setCells _ 0 _ (.inl rfl)
  exact ⟨h.rc.keep (hf.block _ h.rc.lt hn), h.ge, ⟨hf.os.trans h.bel.os, hf.tape.trans h.bel.tape, hf.output.trans h.bel.output, Nat.le_trans h.bel.size hf.size, fun k hk => (hf.block k (by have := h.rc.lt; have := h.ge; omega) (by omega)).trans (h.bel.block k hk)⟩⟩
theorem there0 (V : World) : (V.alloc (.cells #[.string ⟨#[]⟩, .int .i64 0, .int .i64 0, .int .i64 0, .int .i64 0, .int .i64 0, .int .i64 0, .int .i64 0, .int .i64 0, .int .i64 0, .int .i64 0, .int .i64 0, .int .i64 0, .int .i64 0, .int .i64 0] 120)).there V.heap.size 0 15 := RecAt.there (R := rec0) ⟨heap_alloc_new _ _⟩
end Go.Proofs.YtaelaldmibgibaaGreat

namespace Go.Proofs.YtaelaldmibgibaaGreat
open Go.RowKit

def newS (n : Nat) : List RS := List.replicate n ⟨fun _ => 0, []⟩
theorem tf_zero (s : Nat) : tf s 0 = fun _ => 0 := tf_nil s
theorem nnew_any (n : Nat) (w : World) (h1 : 1 ≤ n) (h6 : n ≤ 6) :
    Calls Tryz.prog 8 #[.int .i64 n] w fun e w' => e = .returned (.tuple #[.pointer (some ⟨w.heap.size, 0, none⟩), .int .i64 0]) ∧ ∃ pb L, Nt w' w.heap.size pb L (newS n) ∧ L.length = n ∧ w.heap.size ≤ pb ∧ (∀ x ∈ L, w.heap.size ≤ x.1 ∧ w.heap.size ≤ x.2) ∧ Below w.heap.size w w' := by
  refine (netNew_all n w h1 h6).mono ?_
  rintro e w' ⟨rfl, P, hP, hk, hrw, hb⟩
  have hrl : P.rbs.length = n := hP.net.len
  have hml : P.mbs.length = n := hP.ml
  have e1 : (P.rbs.zip P.mbs).map (·.1) = P.rbs := List.map_fst_zip (by omega)
  have e2 : (P.rbs.zip P.mbs).map (·.2) = P.mbs := List.map_snd_zip (by omega)
  have hlen : (newS n).length = n := by simp [newS]
  refine ⟨rfl, P.pb, P.rbs.zip P.mbs, ⟨?_, fun i x s hx hs => ?_, hP.lt _ (.inl rfl), hP.lt _ (.inr (.inl rfl)), ?_, hrw⟩, by simp; omega, hk _ (.inr (.inl rfl)), fun x hx => ?_, hb⟩
  · rw [e1, hlen]; exact hP.net
  · have hx1 : P.rbs[i]? = some x.1 := by rw [← e1, List.getElem?_map, hx]; rfl
    have hx2 : P.mbs[i]? = some x.2 := by rw [← e2, List.getElem?_map, hx]; rfl
    obtain ⟨E, hE, hF⟩ := hP.rep i x.1 x.2 hx1 hx2
    have eE : E = [] := by
      have : filesE E = [] := hF.symm
      simpa [filesE] using this
    subst eE
    have es : s = ⟨fun _ => 0, []⟩ := by
      unfold newS at hs
      rw [List.getElem?_replicate] at hs
      split at hs
      · exact (Option.some.inj hs).symm
      · cases hs
    subst es
    have hr := hE.rep
    have ec : (newAbs n).c i = 0 := rfl
    rw [ec, tf_zero] at hr
    exact ⟨hr, hE.own, hE.ris, fun x hx => by simp at hx, by simp, Int.le_refl 0⟩
  · rw [e1, e2]; exact hP.nd
  · have m1 : x.1 ∈ P.rbs := by rw [← e1]; exact List.mem_map.2 ⟨x, hx, rfl⟩
    have m2 : x.2 ∈ P.mbs := by rw [← e2]; exact List.mem_map.2 ⟨x, hx, rfl⟩
    exact ⟨hk _ (.inr (.inr (.inl m1))), hk _ (.inr (.inr (.inr m2)))⟩
end Go.Proofs.YtaelaldmibgibaaGreat

namespace Go.Proofs.YtaelaldmibgibaaGreat
open Go.RowKit
attribute [local go_sem ↓] Go.wp_at_zero Go.wp_at_succ
attribute [local go_sem ↓] stTime
attribute [local go_sem] stTime2

structure S3 (w V : World) (b : Nat) (R p q : Rec) (s : Nat) (x : Int) : Prop where
  rc : RecAt V b R
  a : ∀ j, j < 6 → V.cell? ⟨w.heap.size, 3 + j, none⟩ = some (.int .i64 (p.ch j))
  o : ∀ j, j < 6 → V.cell? ⟨w.heap.size + 1, 3 + j, none⟩ = some (.int .i64 (q.ch j))
  e0 : V.cell? ⟨w.heap.size + 2, 0, none⟩ = some (.int .i64 s)
  e1 : V.cell? ⟨w.heap.size + 2, 1, none⟩ = some (.int .i64 x)
  lt : w.heap.size + 2 < V.heap.size
  blt : b < w.heap.size
  fr : Fr (fun k => k = b) w V
theorem S3.more {w V V' : World} {b : Nat} {R p q : Rec} {s : Nat} {x : Int} (h : S3 w V b R p q s x) (hb : Below V.heap.size V V') : S3 w V' b R p q s x :=
  ⟨h.rc.more hb, fun j hj => (hb.cell (p := ⟨w.heap.size, 3 + j, none⟩) (by have := h.lt; simp only; omega)).trans (h.a j hj), fun j hj => (hb.cell (p := ⟨w.heap.size + 1, 3 + j, none⟩) (by have := h.lt; simp only; omega)).trans (h.o j hj), (hb.cell (p := ⟨w.heap.size + 2, 0, none⟩) h.lt).trans h.e0, (hb.cell (p := ⟨w.heap.size + 2, 1, none⟩) h.lt).trans h.e1, Nat.lt_of_lt_of_le h.lt hb.size, h.blt, h.fr.trans (Fr.of_below hb)⟩
end Go.Proofs.YtaelaldmibgibaaGreat

namespace Go.Proofs.YtaelaldmibgibaaGreat
open Go.RowKit Go.Maps

set_option maxRecDepth 100000 in
set_option maxHeartbeats 1000000 in
theorem room_rg (rb s : Nat) (cm : Nat → Int) (mb : Nat) (E : Recs) (w : World) (h : Rg w rb s cm mb E) (R : Rec) :
    Calls Tryz.prog 50 #[.pointer (some ⟨rb, 0, none⟩), recVal R] w fun e w' => e = .returned (.bool (noRoom R E)) ∧ Below w.heap.size w w' := by
  have B1 := hide ((Below.refl w.heap.size w).alloc (Nat.le_refl _) (.cells #[.string R.text, .int .i64 R.br, .int .i64 R.bn, .int .i64 (R.ch 0), .int .i64 (R.ch 1), .int .i64 (R.ch 2), .int .i64 (R.ch 3), .int .i64 (R.ch 4), .int .i64 (R.ch 5), .int .i64 (R.kn 0), .int .i64 (R.kn 1), .int .i64 (R.kn 2), .int .i64 (R.kn 3), .int .i64 (R.kn 4), .int .i64 (R.kn 5)] 120))
  have FI : Hid (∀ V, Below w.heap.size w V → Calls Tryz.prog 69 #[.pointer (some ⟨rb, 0, none⟩)] V fun e w' => e = .returned (.int .i64 (thereE E).length) ∧ Below w.heap.size w w') := fun V hb => by
    have h' := h.below hb
    refine (pfiles_gen rb s cm mb V h'.rep E h'.ris (by have := h'.len; omega) h'.own).mono ?_
    rintro e w' ⟨rfl, hb'⟩
    exact ⟨rfl, hb.trans (hb'.mono hb.size)⟩
  unfold recVal noRoom
  clear h
  cases hd : decide (0 < R.bn)
  all_goals
    go_enter Tryz.func50, Tryz.ntmps50
    go_wp2_with (first
      | (go_at_call 60; refine (isThere_any _ _ _ _ _ _ _ _ _ _).mono ?_; rintro e w3 ⟨rfl, hbr⟩; have B3 := hide (B1.out.trans (hbr.mono B1.out.size)); clear hbr)
      | (go_at_call 69; refine (FI.out _ B3.out).mono ?_; rintro e w4 ⟨rfl, hbr⟩; have B4 := hide hbr; clear hbr))
    go_ret
    exact ⟨rfl, by first | exact B4.out | exact B3.out⟩
end Go.Proofs.YtaelaldmibgibaaGreat

namespace Go.Proofs.YtaelaldmibgibaaGreat
open Go.RowKit Go.Maps

structure Rv (w V : World) (rb s mb b : Nat) (cm : Nat → Int) (E : Recs) (R : Rec) (eb : Nat) (eo : Option Obj) (b1 : Nat) (R1 : Rec) (b2 : Nat) (R2 : Rec) : Prop where
  sg : Sg w V rb s mb b cm E R eb eo
  r1 : RecAt V b1 R1
  r2 : RecAt V b2 R2
  g1 : w.heap.size ≤ b1
  g2 : w.heap.size ≤ b2
  n1 : b ≠ b1
  n2 : b ≠ b2
section
variable {w V V' : World} {rb s mb b : Nat} {cm : Nat → Int} {E : Recs} {R R' : Rec} {eb : Nat} {eo : Option Obj} {b1 b2 : Nat} {R1 R2 : Rec}
theorem Rv.below (h : Rv w V rb s mb b cm E R eb eo b1 R1 b2 R2) (hb : Below V.heap.size V V') : Rv w V' rb s mb b cm E R eb eo b1 R1 b2 R2 :=
  ⟨h.sg.below hb, h.r1.more hb, h.r2.more hb, h.g1, h.g2, h.n1, h.n2⟩
theorem Rv.drew (h : Rv w V rb s mb b cm E R eb eo b1 R1 b2 R2) : Rv w V.drew rb s mb b cm E R eb eo b1 R1 b2 R2 := h.below ⟨rfl, rfl, rfl, Nat.le_refl _, fun _ _ => rfl⟩
theorem Rv.rg (h : Rv w V rb s mb b cm E R eb eo b1 R1 b2 R2) {cm0 : Nat → Int} (h0 : Rg w rb s cm0 mb E) (hc : 0 ≤ cm s) : Rg V rb s cm mb E := ⟨h.sg.rep, h.sg.own, h0.ris, h0.bn, h0.len, hc⟩
theorem Rv.there (S : Rv w V rb s mb b cm E R eb eo b1 R1 b2 R2) (Q : Rec) : Calls Tryz.prog 60 #[fileVal Q] V fun e w' => e = .returned (.bool (decide (0 < Q.bn))) ∧ Rv w w' rb s mb b cm E R eb eo b1 R1 b2 R2 := by
  refine (isThere_any _ _ _ _ _ _ _ _ _ V).mono ?_
  rintro e w' ⟨rfl, hb⟩
  exact ⟨rfl, S.below hb⟩
theorem Rv.room (S : Rv w V rb s mb b cm E R eb eo b1 R1 b2 R2) (h : Rg w rb s cm mb E) (Q : Rec) : Calls Tryz.prog 50 #[.pointer (some ⟨rb, 0, none⟩), recVal Q] V fun e w' => e = .returned (.bool (noRoom Q E)) ∧ Rv w w' rb s mb b cm E R eb eo b1 R1 b2 R2 := by
  refine (room_rg rb s cm mb E V (S.rg h h.c0) Q).mono ?_
  rintro e w' ⟨rfl, hb⟩
  exact ⟨rfl, S.below hb⟩
theorem Rv.next (S : Rv w V rb s mb b cm E R eb eo b1 R1 b2 R2) (h0 : 0 ≤ cm s) (hc : cm s < 1000000000) : Calls Tryz.prog 51 #[.pointer (some ⟨rb, 0, none⟩)] V fun e w' => e = .returned (.agg #[.int .i64 s, .int .i64 (cm s + 1)]) ∧ Rv w w' rb s mb b (nxG s cm) E R eb eo b1 R1 b2 R2 := by
  refine (next_any rb s cm mb V S.sg.rep h0 hc).mono ?_
  rintro e w' ⟨rfl, hr, hf⟩
  have hl := S.sg.rlt
  have h1 : b ≠ rb := by have := S.sg.bge; omega
  have h2 := (S.sg.rep.ne S.sg.own).symm
  refine ⟨rfl, ⟨S.sg.rc.keep (hf.block _ S.sg.rc.lt h1), hr, ownsMap_keep S.sg.own (hf.block _ S.sg.own.lt h2), S.sg.fr.trans (hf.mono (fun k _ e => .inl e)), S.sg.rlt, S.sg.mlt, S.sg.bge, fun o ho => ?_⟩, S.r1.keep (hf.block _ S.r1.lt (by have := S.g1; omega)), S.r2.keep (hf.block _ S.r2.lt (by have := S.g2; omega)), S.g1, S.g2, S.n1, S.n2⟩
  obtain ⟨e1, e2, e3⟩ := S.sg.ev o ho
  exact ⟨by rw [hf.block _ (S.sg.elt o ho) (by omega)]; exact e1, e2, e3⟩
end
end Go.Proofs.YtaelaldmibgibaaGreat

namespace Go.Proofs.YtaelaldmibgibaaGreat
open Go.RowKit Go.Maps

end Go.Proofs.YtaelaldmibgibaaGreat
