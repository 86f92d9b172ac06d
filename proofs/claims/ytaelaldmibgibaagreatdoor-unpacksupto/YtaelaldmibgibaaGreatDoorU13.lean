/- The document's text: what stands behind a path (spot). -/
import Derived.Test.YtaelaldmibgibaaGreatDoorU12

set_option linter.unusedVariables false
set_option linter.unusedSimpArgs false

namespace Go.Proofs.YtaelaldmibgibaaGreatDoor
open Go.RowKit
attribute [local go_sem ↓] stSpot
attribute [local go_sem] run_stSpot

def sp0 (v : Value) (n : Nat) : SP := ⟨false, ⟨#[]⟩, 0, 0, v, List.replicate n 0, .slice none 0 0, []⟩
/-- the spot is begun: its changes are noughts -/
theorem Sx.begin {w w1 : World} {b : Nat} {s : ByteArray} {x : Nat × Bool} {n g cap : Nat} (h : Rd w b s x.1 x.2)
    (ho : w1.ownsRow (w.alloc (.cells zero6 117)).heap.size 3 1 (.slice (some ⟨g, 0, none⟩) n cap) n (ivs (List.replicate n 0))) (hb1 : Below (w.alloc (.cells zero6 117)).heap.size (w.alloc (.cells zero6 117)) w1) :
    Sx w ((w1.alloc (.cells zero6 117)).setCells w1.heap.size 0 [.bool false, .string ⟨#[]⟩, .int .i64 0, .int .i64 0, .slice (some ⟨g, 0, none⟩) n cap, .slice none 0 0]) b s x w.heap.size w1.heap.size (sp0 (.slice (some ⟨g, 0, none⟩) n cap) n) := by
  have hlt := h.lt
  have hs : w.heap.size < w1.heap.size := by have := hb1.size; simp at this; omega
  have hg := ho.lt g rfl
  have oth : ∀ k, k ≠ w1.heap.size → k < w1.heap.size → ((w1.alloc (.cells zero6 117)).setCells w1.heap.size 0 [.bool false, .string ⟨#[]⟩, .int .i64 0, .int .i64 0, .slice (some ⟨g, 0, none⟩) n cap, .slice none 0 0]).heap[k]? = w1.heap[k]? := fun k hk hl => by
    rw [heap_setCells_other _ _ _ _ _ hk]
    exact Below.heap_alloc _ _ _ hl
  have low : ∀ k, k < w.heap.size → w1.heap[k]? = w.heap[k]? := fun k hk => by
    rw [hb1.block k (by simp; omega)]
    exact Below.heap_alloc _ _ _ hk
  have FR : Fr (fun k => k = b) w ((w1.alloc (.cells zero6 117)).setCells w1.heap.size 0 [.bool false, .string ⟨#[]⟩, .int .i64 0, .int .i64 0, .slice (some ⟨g, 0, none⟩) n cap, .slice none 0 0]) := by
    have q : Below w.heap.size w w1 := ((Below.refl _ w).alloc (Nat.le_refl _) (.cells zero6 117)).trans (hb1.mono (by simp))
    exact Fr.of_below (Below.setCells (q.alloc (by omega) _) (by omega) _ _)
  refine ⟨h.keep (by rw [oth b (by omega) (by omega), low b hlt]), ?_, ?_, ?_, World.ownsRow_nil _ _ _ _, ?_, ?_, ?_, FR, hlt, Nat.le_refl _, by omega, by omega⟩
  · have q : (w1.alloc (.cells zero6 117)).heap[w1.heap.size]? = some (.cells zero6 117 (0, 0)) := heap_alloc_new _ _
    simp only [World.setCells]
    rw [heap_set1 _ _ 5 _ _ _ _ (heap_set1 _ _ 4 _ _ _ _ (heap_set1 _ _ 3 _ _ _ _ (heap_set1 _ _ 2 _ _ _ _ (heap_set1 _ _ 1 _ _ _ _ (heap_set1 _ _ 0 _ _ _ _ q)))))]
    simp [zero6, sp0, SP.cells]
  · rw [oth _ (by omega) hs, hb1.block _ (by simp)]
    exact heap_alloc_new _ _
  · show World.ownsRow _ _ _ _ (.slice (some ⟨g, 0, none⟩) n cap) (List.replicate n 0).length (ivs (List.replicate n 0))
    rw [List.length_replicate]
    refine ownsRow_base (ownsRow_keep ho (fun k hk => ?_)) (fun k hk => by have := (ho.lt k hk).1; simp at this; omega)
    have := ho.lt k hk
    exact oth k (by omega) this.2
  · intro k hk
    have : k = g := by simpa [sp0, Value.ownBlock] using hk.symm
    subst this
    simp at hg
    exact ⟨by omega, by omega⟩
  · intro k hk; simp [sp0, Value.ownBlock] at hk
  · intro k hk; simp [sp0, Value.ownBlock] at hk

theorem Sx.cells6 {w wr : World} {b : Nat} {s : ByteArray} {x : Nat × Bool} {rb xb : Nat} {c : SP} (h : Sx w wr b s x rb xb c) : wr.cell? ⟨xb, 0, none⟩ = some (.bool c.there) ∧ wr.cell? ⟨xb, 1, none⟩ = some (.string c.text) ∧ wr.cell? ⟨xb, 2, none⟩ = some (.int .i64 c.by_) ∧ wr.cell? ⟨xb, 3, none⟩ = some (.int .i64 c.num) ∧ wr.cell? ⟨xb, 4, none⟩ = some c.chv ∧ wr.cell? ⟨xb, 5, none⟩ = some c.tmv := by
  refine ⟨?_, ?_, ?_, ?_, ?_, ?_⟩ <;> rw [h.cell] <;> rfl

theorem hasAt_no {s : ByteArray} {a : Nat} {no : Bool} {p : ByteArray} (h : hasAt s a no p = true) : no = false := by
  unfold hasAt at h
  cases no
  · rfl
  · simp at h
theorem passed_yes {s : ByteArray} {a : Nat} {no : Bool} {p : ByteArray} (h : hasAt s a no p = true) : passed s a no p = a + p.size := by unfold passed; rw [if_pos h]
theorem passed_no {s : ByteArray} {a : Nat} {no : Bool} {p : ByteArray} (h : hasAt s a no p = false) : passed s a no p = a := by unfold passed; rw [if_neg (by rw [h]; simp)]

set_option maxRecDepth 100000 in
set_option maxHeartbeats 4000000 in
theorem spot_none (b : Nat) (s : ByteArray) (x : Nat × Bool) (n : Nat) (h1 : 1 ≤ n) (h6 : n ≤ 6) (w : World) (h : Rd w b s x.1 x.2) (x1 y : Nat × Bool) (T1 : (Nat × Bool) × List Int) (hx1 : wantS s blank x = x1) (hx2 : timeS s n x1 = T1) (hy : wantS s blank T1.1 = y)
    (hh : hasAt s y.1 y.2 dashNl = true) :
    Calls Tryz.prog 101 #[.pointer (some ⟨b, 0, none⟩), .int .i64 n] w fun e w' => ∃ c : SP, e = .returned (.agg c.cells.toArray) ∧ Sp w w' b s c ⟨(y.1 + 2, false), false, [], 0, 0, List.replicate n 0, T1.2⟩ := by
  have hsz := size_Spot
  have HB : Hid (∀ w1 g cap, _ → _ → Sx _ _ _ _ _ _ _ _) := fun w1 g cap ho hb1 => Sx.begin (n := n) (g := g) (cap := cap) (w1 := w1) h ho hb1
  have HL : Hid (0 < T1.2.length) := by unfold Hid; rw [← hx2, timeS_len]; omega
  have hst : (passed s y.1 y.2 dashNl, y.2) = (y.1 + 2, false) := by rw [passed_yes hh, hasAt_no hh]; rfl
  clear h
  go_enter Tryz.func101, Tryz.ntmps101
  go_wp2_with (first
    | (go_at_call 98; have q := S4; refine (S4.out.is dashNl (by decide)).mono ?_; rw [hh, hst]; rintro e w5 ⟨rfl, h5⟩; have S5 := hide h5; have c2 := h5.rd.c2; obtain ⟨k0, k1, k2, k3, k4, k5⟩ := h5.cells6; dsimp only [sp0] at k0 k1 k2 k3 k4 k5; have hth := h5.there; clear h5)
    | (go_at_call 50; have q := S3r; have S3 := S3r.out.putTm; refine (S3.want blank (by decide)).mono ?_; rw [hy]; rintro e w4 ⟨rfl, h4⟩; have S4 := hide h4; clear h4 k5 f5)
    | (go_at_call 52; have q := S2; refine (S2.out.time n h6).mono ?_; rw [hx2]; rintro e w3 ⟨v, rfl, h3⟩; obtain ⟨g3, c3, rfl, _, _⟩ := World.ownsRow.form h3.own HL.out; have k5 := h3.sx.cells6.2.2.2.2.2; have f5 := h3.sx.fz 5; have S3r := hide h3; clear h3)
    | (go_at_call 50; have q := hb1; have S1 := HB.out _ _ _ ho1 hb1; refine (S1.want blank (by decide)).mono ?_; rw [hx1]; rintro e w2 ⟨rfl, h2⟩; have S2 := hide h2; clear h2)
    | (go_at_call 49; refine (zeros_form n h1 h6 _).mono ?_; rintro e w1 ⟨g1, c1, rfl, ho1, hg1, hl1, hb1⟩; have ht1 : (w1.alloc (.cells zero6 117)).there w1.heap.size 0 6 := (Mine.made' w1 zero6 117 (n := 6) rfl).there; simp only [zero6] at ht1))
  refine bodyPost_ret (ret_cell1 Tryz.results101 (a := ⟨w.heap.size, 0, none⟩) rfl (load_stored (cs := [_, _, _, _, _, _]) hth Tryz.underlying117 rfl size_Spot)) rfl ?_
  exact ⟨_, rfl, S5.out.done (r := ⟨(y.1 + 2, false), false, [], 0, 0, List.replicate n 0, T1.2⟩) rfl rfl rfl rfl rfl rfl _⟩

set_option maxRecDepth 100000 in
set_option maxHeartbeats 4000000 in
theorem spot_no (b : Nat) (s : ByteArray) (x : Nat × Bool) (n : Nat) (h1 : 1 ≤ n) (h6 : n ≤ 6) (w : World) (h : Rd w b s x.1 x.2) (x1 y : Nat × Bool) (T1 : (Nat × Bool) × List Int) (hx1 : wantS s blank x = x1) (hx2 : timeS s n x1 = T1) (hy : wantS s blank T1.1 = y)
    (hh : hasAt s y.1 y.2 dashNl = false) (hn : y.2 = true) :
    Calls Tryz.prog 101 #[.pointer (some ⟨b, 0, none⟩), .int .i64 n] w fun e w' => ∃ c : SP, e = .returned (.agg c.cells.toArray) ∧ Sp w w' b s c ⟨y, false, [], 0, 0, List.replicate n 0, T1.2⟩ := by
  have hsz := size_Spot
  have HB : Hid (∀ w1 g cap, _ → _ → Sx _ _ _ _ _ _ _ _) := fun w1 g cap ho hb1 => Sx.begin (n := n) (g := g) (cap := cap) (w1 := w1) h ho hb1
  have HL : Hid (0 < T1.2.length) := by unfold Hid; rw [← hx2, timeS_len]; omega
  have hst : (passed s y.1 y.2 dashNl, y.2) = y := by rw [passed_no hh]
  clear h
  go_enter Tryz.func101, Tryz.ntmps101
  go_wp2_with (first
    | (go_at_call 98; have q := S4; refine (S4.out.is dashNl (by decide)).mono ?_; rw [hh, hst]; rintro e w5 ⟨rfl, h5⟩; have S5 := hide h5; have c2 := h5.rd.c2; rw [hn] at c2; obtain ⟨k0, k1, k2, k3, k4, k5⟩ := h5.cells6; dsimp only [sp0] at k0 k1 k2 k3 k4 k5; have hth := h5.there; clear h5)
    | (go_at_call 50; have q := S3r; have S3 := S3r.out.putTm; refine (S3.want blank (by decide)).mono ?_; rw [hy]; rintro e w4 ⟨rfl, h4⟩; have S4 := hide h4; clear h4 k5 f5)
    | (go_at_call 52; have q := S2; refine (S2.out.time n h6).mono ?_; rw [hx2]; rintro e w3 ⟨v, rfl, h3⟩; obtain ⟨g3, c3, rfl, _, _⟩ := World.ownsRow.form h3.own HL.out; have k5 := h3.sx.cells6.2.2.2.2.2; have f5 := h3.sx.fz 5; have S3r := hide h3; clear h3)
    | (go_at_call 50; have q := hb1; have S1 := HB.out _ _ _ ho1 hb1; refine (S1.want blank (by decide)).mono ?_; rw [hx1]; rintro e w2 ⟨rfl, h2⟩; have S2 := hide h2; clear h2)
    | (go_at_call 49; refine (zeros_form n h1 h6 _).mono ?_; rintro e w1 ⟨g1, c1, rfl, ho1, hg1, hl1, hb1⟩; have ht1 : (w1.alloc (.cells zero6 117)).there w1.heap.size 0 6 := (Mine.made' w1 zero6 117 (n := 6) rfl).there; simp only [zero6] at ht1))
  refine bodyPost_ret (ret_cell1 Tryz.results101 (a := ⟨w.heap.size, 0, none⟩) rfl (load_stored (cs := [_, _, _, _, _, _]) hth Tryz.underlying117 rfl size_Spot)) rfl ?_
  exact ⟨_, rfl, S5.out.done (r := ⟨y, false, [], 0, 0, List.replicate n 0, T1.2⟩) rfl rfl rfl rfl rfl rfl _⟩


end Go.Proofs.YtaelaldmibgibaaGreatDoor
