/- The document's text: reading a spot: the reader, and the spot under way. The document's text: what stands behind a path (spot). The document's text: what stands behind a path (spot): a file. The document's text: what stands behind a path (spot): a file whose birth is in no replica of the net; and all of it. The document's text: reading records: the reader, the paths, the spots. -/
import Derived.Test.YtaelaldmibgibaaGreatDoorU28
import Derived.Test.YtaelaldmibgibaaGreatDoorU02
import Derived.BigQuiet
import Derived.Deep.QuietTactic
import Derived.Test.YtaelaldmibgibaaGreatDoorU08

set_option linter.unusedVariables false
set_option linter.unusedSimpArgs false

namespace Go.Proofs.YtaelaldmibgibaaGreatDoor
open Go.RowKit

def zero6 : Array Value := #[.bool false, .string ⟨#[]⟩, .int .i64 0, .int .i64 0, .slice none 0 0, .slice none 0 0]
/-- the reader, a spot under way in block xb, and block rb for what is handed back -/
structure Sx (w wr : World) (b : Nat) (s : ByteArray) (x : Nat × Bool) (rb xb : Nat) (c : SP) : Prop where
  rd : Rd wr b s x.1 x.2
  blk : wr.heap[xb]? = some (.cells c.cells.toArray 117 (0, 0))
  res : wr.heap[rb]? = some (.cells zero6 117 (0, 0))
  ch : wr.ownsRow w.heap.size 3 1 c.chv c.ch.length (ivs c.ch)
  tm : wr.ownsRow w.heap.size 3 1 c.tmv c.tm.length (ivs c.tm)
  fch : ∀ k, c.chv.ownBlock = some k → k ≠ xb ∧ k ≠ rb
  ftm : ∀ k, c.tmv.ownBlock = some k → k ≠ xb ∧ k ≠ rb
  apart : ∀ k, c.tmv.ownBlock = some k → c.chv.ownBlock ≠ some k
  fr : Fr (fun k => k = b) w wr
  hb : b < w.heap.size
  hr : w.heap.size ≤ rb
  hx : w.heap.size ≤ xb
  ne : rb ≠ xb

theorem Sx.cell {w wr b s x rb xb c} (h : Sx w wr b s x rb xb c) (j : Nat) : wr.cell? ⟨xb, j, none⟩ = c.cells[j]? := by simp [World.cell?, h.blk]
theorem Sx.c1 {w wr b s x rb xb c} (h : Sx w wr b s x rb xb c) : wr.cell? ⟨xb, 1, none⟩ = some (.string c.text) := by rw [h.cell]; rfl
theorem Sx.c2 {w wr b s x rb xb c} (h : Sx w wr b s x rb xb c) : wr.cell? ⟨xb, 2, none⟩ = some (.int .i64 c.by_) := by rw [h.cell]; rfl
theorem Sx.isSome {w wr b s x rb xb c} (h : Sx w wr b s x rb xb c) (j : Nat) (hj : j < 6) : (wr.cell? ⟨xb, j, none⟩).isSome = true := by
  rw [h.cell]
  match j, hj with
  | 0, _ | 1, _ | 2, _ | 3, _ | 4, _ | 5, _ => rfl
theorem Sx.fz {w wr b s x rb xb c} (h : Sx w wr b s x rb xb c) (j : Nat) : wr.frozen? ⟨xb, j, none⟩ = false := by simp [World.frozen?, h.blk]
theorem Sx.xlt {w wr b s x rb xb c} (h : Sx w wr b s x rb xb c) : xb < wr.heap.size := (Array.getElem?_eq_some_iff.1 h.blk).1
theorem Sx.rlt {w wr b s x rb xb c} (h : Sx w wr b s x rb xb c) : rb < wr.heap.size := (Array.getElem?_eq_some_iff.1 h.res).1
theorem Sx.there {w wr b s x rb xb c} (h : Sx w wr b s x rb xb c) : wr.there rb 0 6 := by
  intro j hj
  refine ⟨?_, by simp [World.frozen?, h.res]⟩
  simp only [World.cell?, h.res, zero6]
  match j, hj with
  | 0, _ | 1, _ | 2, _ | 3, _ | 4, _ | 5, _ => rfl

/-- somebody has turned the reader alone -/
theorem Sx.onRd {w wr w' : World} {b : Nat} {s : ByteArray} {x y : Nat × Bool} {rb xb : Nat} {c : SP} (h : Sx w wr b s x rb xb c) (hr : Rd w' b s y.1 y.2) (hf : Fr (fun k => k = b) wr w') : Sx w w' b s y rb xb c := by
  have hz := h.fr.size
  have hb := h.hb
  have keep : ∀ k, w.heap.size ≤ k → k < wr.heap.size → w'.heap[k]? = wr.heap[k]? := fun k h1 h2 => hf.block k h2 (by omega)
  exact ⟨hr, by rw [keep xb h.hx h.xlt]; exact h.blk, by rw [keep rb h.hr h.rlt]; exact h.res, ownsRow_keep h.ch (fun k hk => keep k (h.ch.lt k hk).1 (h.ch.lt k hk).2), ownsRow_keep h.tm (fun k hk => keep k (h.tm.lt k hk).1 (h.tm.lt k hk).2), h.fch, h.ftm, h.apart, h.fr.trans hf, hb, h.hr, h.hx, h.ne⟩
theorem Sx.want {w wr : World} {b : Nat} {s : ByteArray} {x : Nat × Bool} {rb xb : Nat} {c : SP} (h : Sx w wr b s x rb xb c) (p : ByteArray) (hp : p.size ≤ 1000) :
    Calls Tryz.prog 50 #[.pointer (some ⟨b, 0, none⟩), .string p] wr fun e w' => e = .returned (.tuple #[]) ∧ Sx w w' b s (wantS s p x) rb xb c := by
  refine (want_any b s x.1 x.2 p hp wr h.rd).mono ?_
  rintro e w' ⟨rfl, hr, hf⟩
  exact ⟨rfl, h.onRd hr hf⟩
theorem Sx.num {w wr : World} {b : Nat} {s : ByteArray} {x : Nat × Bool} {rb xb : Nat} {c : SP} (h : Sx w wr b s x rb xb c) :
    Calls Tryz.prog 51 #[.pointer (some ⟨b, 0, none⟩)] wr fun e w' => e = .returned (.int .i64 (numVal s x.1)) ∧ Sx w w' b s (numS s x) rb xb c := by
  refine (number_any b s x.1 x.2 wr h.rd).mono ?_
  rintro e w' ⟨rfl, hr, hf⟩
  exact ⟨rfl, h.onRd hr hf⟩
theorem Sx.is {w wr : World} {b : Nat} {s : ByteArray} {x : Nat × Bool} {rb xb : Nat} {c : SP} (h : Sx w wr b s x rb xb c) (p : ByteArray) (hp : p.size ≤ 1000) :
    Calls Tryz.prog 98 #[.pointer (some ⟨b, 0, none⟩), .string p] wr fun e w' => e = .returned (.bool (hasAt s x.1 x.2 p)) ∧ Sx w w' b s (passed s x.1 x.2 p, x.2) rb xb c := by
  refine (is_any b s x.1 x.2 p hp wr h.rd).mono ?_
  rintro e w' ⟨rfl, hr, hf⟩
  exact ⟨rfl, h.onRd hr hf⟩
/-- the spot as it was, and a row more -/
structure Sxr (w w' : World) (b : Nat) (s : ByteArray) (x : Nat × Bool) (rb xb : Nat) (c : SP) (v : Value) (l : List Int) : Prop where
  sx : Sx w w' b s x rb xb c
  own : w'.ownsRow w.heap.size 3 1 v l.length (ivs l)
  far : ∀ k, v.ownBlock = some k → k ≠ xb ∧ k ≠ rb ∧ c.chv.ownBlock ≠ some k ∧ c.tmv.ownBlock ≠ some k
theorem Sx.time {w wr : World} {b : Nat} {s : ByteArray} {x : Nat × Bool} {rb xb : Nat} {c : SP} (h : Sx w wr b s x rb xb c) (n : Nat) (hn : n ≤ 6) :
    Calls Tryz.prog 52 #[.pointer (some ⟨b, 0, none⟩), .int .i64 n] wr fun e w' => ∃ v, e = .returned v ∧ Sxr w w' b s (timeS s n x).1 rb xb c v (timeS s n x).2 := by
  refine (time_any b s x n hn wr h.rd).mono ?_
  rintro e w' ⟨v, rfl, hT⟩
  have hz := h.fr.size
  refine ⟨v, rfl, h.onRd hT.rd hT.fr, ownsRow_base hT.own (fun k hk => by have := (hT.own.lt k hk).1; omega), fun k hk => ?_⟩
  have h1 := (hT.own.lt k hk).1
  have h2 := h.xlt
  have h3 := h.rlt
  exact ⟨by omega, by omega, fun e => by have := (h.ch.lt k e).2; omega, fun e => by have := (h.tm.lt k e).2; omega⟩

/-- a field of the spot is written -/
theorem Sx.put {w wr : World} {b : Nat} {s : ByteArray} {x : Nat × Bool} {rb xb : Nat} {c c' : SP} (h : Sx w wr b s x rb xb c) (j : Nat) (u : Value) (hc : c'.cells = c.cells.set j u)
    (hch : wr.ownsRow w.heap.size 3 1 c'.chv c'.ch.length (ivs c'.ch)) (htm : wr.ownsRow w.heap.size 3 1 c'.tmv c'.tm.length (ivs c'.tm))
    (fch : ∀ k, c'.chv.ownBlock = some k → k ≠ xb ∧ k ≠ rb) (ftm : ∀ k, c'.tmv.ownBlock = some k → k ≠ xb ∧ k ≠ rb) (hap : ∀ k, c'.tmv.ownBlock = some k → c'.chv.ownBlock ≠ some k) : Sx w (wr.setCell ⟨xb, j, none⟩ u) b s x rb xb c' := by
  have hb := h.hb
  have hx := h.hx
  have oth : ∀ k, k ≠ xb → (wr.setCell ⟨xb, j, none⟩ u).heap[k]? = wr.heap[k]? := fun k hk => Below.heap_setCell _ _ _ _ hk
  refine ⟨h.rd.keep (oth b (by omega)), ?_, by rw [oth rb h.ne]; exact h.res, ownsRow_keep hch (fun k hk => oth k (fch k hk).1), ownsRow_keep htm (fun k hk => oth k (ftm k hk).1), fch, ftm, hap, h.fr.setCell (.inr hx) _, hb, h.hr, hx, h.ne⟩
  have := heap_set1 wr xb j _ _ _ u h.blk
  rw [this, hc]
  simp
theorem Sx.putThere {w wr b s x rb xb c} (h : Sx w wr b s x rb xb c) (u : Bool) : Sx w (wr.setCell ⟨xb, 0, none⟩ (.bool u)) b s x rb xb { c with there := u } := h.put 0 _ rfl h.ch h.tm h.fch h.ftm h.apart
theorem Sx.putText {w wr b s x rb xb c} (h : Sx w wr b s x rb xb c) (u : ByteArray) : Sx w (wr.setCell ⟨xb, 1, none⟩ (.string u)) b s x rb xb { c with text := u } := h.put 1 _ rfl h.ch h.tm h.fch h.ftm h.apart
theorem Sx.putBy {w wr b s x rb xb c} (h : Sx w wr b s x rb xb c) (u : Int) : Sx w (wr.setCell ⟨xb, 2, none⟩ (.int .i64 u)) b s x rb xb { c with by_ := u } := h.put 2 _ rfl h.ch h.tm h.fch h.ftm h.apart
theorem Sx.putNum {w wr b s x rb xb c} (h : Sx w wr b s x rb xb c) (u : Int) : Sx w (wr.setCell ⟨xb, 3, none⟩ (.int .i64 u)) b s x rb xb { c with num := u } := h.put 3 _ rfl h.ch h.tm h.fch h.ftm h.apart
theorem Sxr.putCh {w wr b s x rb xb c v l} (h : Sxr w wr b s x rb xb c v l) : Sx w (wr.setCell ⟨xb, 4, none⟩ v) b s x rb xb { c with chv := v, ch := l } :=
  h.sx.put 4 _ rfl h.own h.sx.tm (fun k hk => ⟨(h.far k hk).1, (h.far k hk).2.1⟩) h.sx.ftm (fun k hk e => (h.far k e).2.2.2 hk)
theorem Sxr.putTm {w wr b s x rb xb c v l} (h : Sxr w wr b s x rb xb c v l) : Sx w (wr.setCell ⟨xb, 5, none⟩ v) b s x rb xb { c with tmv := v, tm := l } :=
  h.sx.put 5 _ rfl h.sx.ch h.own h.sx.fch (fun k hk => ⟨(h.far k hk).1, (h.far k hk).2.1⟩) (fun k hk e => (h.far k hk).2.2.1 e)
theorem Sx.setNo {w wr b s} {x : Nat × Bool} {rb xb c} (h : Sx w wr b s x rb xb c) (u : Bool) : Sx w (wr.setCell ⟨b, 2, none⟩ (.bool u)) b s (x.1, u) rb xb c :=
  h.onRd (h.rd.setNo u) ((Fr.refl (fun k => k = b) wr).setCell (.inl rfl) _)
theorem Sx.setAt {w wr b s} {x : Nat × Bool} {rb xb c} (h : Sx w wr b s x rb xb c) (u : Nat) (hu : u ≤ s.size) : Sx w (wr.setCell ⟨b, 1, none⟩ (.int .i64 u)) b s (u, x.2) rb xb c :=
  h.onRd (h.rd.setAt u hu) ((Fr.refl (fun k => k = b) wr).setCell (.inl rfl) _)
theorem Sx.drewN {w wr b s x rb xb c} (h : Sx w wr b s x rb xb c) (q : Nat) : Sx w (wr.drewN q) b s x rb xb c :=
  h.onRd (h.rd.keep rfl) ((Fr.refl _ _).drewN q)
theorem Sx.alloc {w wr b s x rb xb c} (h : Sx w wr b s x rb xb c) (o : Obj) : Sx w (wr.alloc o) b s x rb xb c :=
  h.onRd (h.rd.keep (Below.heap_alloc _ _ _ (by have := h.fr.size; have := h.hb; omega))) ((Fr.refl _ _).alloc o)

/-- what is handed back: a spot that is as it was read -/
structure Sp (w w' : World) (b : Nat) (s : ByteArray) (c : SP) (r : SpR) : Prop where
  rd : Rd w' b s r.st.1 r.st.2
  th : c.there = r.there
  tx : c.text = ⟨r.text.toArray⟩
  by_ : c.by_ = r.by_
  num : c.num = r.num
  ch : c.ch = r.ch
  tm : c.tm = r.tm
  och : w'.ownsRow w.heap.size 3 1 c.chv c.ch.length (ivs c.ch)
  otm : w'.ownsRow w.heap.size 3 1 c.tmv c.tm.length (ivs c.tm)
  apart : ∀ k, c.tmv.ownBlock = some k → c.chv.ownBlock ≠ some k
  fr : Fr (fun k => k = b) w w'
theorem Sx.done {w wr : World} {b : Nat} {s : ByteArray} {rb xb : Nat} {c : SP} {r : SpR} (h : Sx w wr b s r.st rb xb c) (e1 : c.there = r.there) (e2 : c.text = ⟨r.text.toArray⟩) (e3 : c.by_ = r.by_) (e4 : c.num = r.num) (e5 : c.ch = r.ch) (e6 : c.tm = r.tm) (vs : List Value) :
    Sp w (wr.setCells rb 0 vs) b s c r := by
  have hb := h.hb
  have hr := h.hr
  have oth : ∀ k, k ≠ rb → (wr.setCells rb 0 vs).heap[k]? = wr.heap[k]? := fun k hk => heap_setCells_other _ _ _ _ _ hk
  refine ⟨h.rd.keep (oth b (by omega)), e1, e2, e3, e4, e5, e6, ownsRow_keep h.ch (fun k hk => oth k (h.fch k hk).2), ownsRow_keep h.tm (fun k hk => oth k (h.ftm k hk).2), h.apart, ?_⟩
  have q := Below.setCells (b := rb) (Below.refl 0 wr) (Nat.zero_le _) vs 0
  exact h.fr.trans' (T := fun k => k = rb) ⟨q.os, q.tape, q.output, by rw [size_setCells]; exact Nat.le_refl _, fun k _ hk => oth k hk⟩ (fun i hi e => by omega)

end Go.Proofs.YtaelaldmibgibaaGreatDoor

namespace Go.Proofs.YtaelaldmibgibaaGreatDoor
open Go.RowKit
attribute [local go_sem ↓] stSpot
attribute [local go_sem] run_stSpot

def sp0 (v : Value) (n : Nat) : SP := ⟨false, ⟨#[]⟩, 0, 0, v, List.replicate n 0, .slice none 0 0, []⟩
/-- the spot is begun: its changes are noughts -/
theorem Sx.begin {w w1 : World} {b : Nat} {s : ByteArray} {x : Nat × Bool} {n g cap : Nat} (h : Rd w b s x.1 x.2)
    (ho : w1.ownsRow (w.alloc (.cells zero6 117)).heap.size 3 1 (.slice (some ⟨g, 0, none⟩) n cap) n (ivs (List.replicate n 0))) (hb1 : Below (w.alloc (.cells zero6 117)).heap.size (w.alloc (.cells zero6 117)) w1) :
    Sx w ((w1.alloc (.cells zero6 117)).setCells w1.heap.size 0 [.bool false, .string ⟨#[]⟩, .int .i64 0, .int .i64 0, .slice (some ⟨g, 0, none⟩) n cap, .slice none 0 0]) b s x w.heap.size w1.heap.size (sp0 (.slice (some ⟨g, 0, none⟩) n cap) n) := by
  have hlt := h.lt
  have hs : w.heap.size < w1.heap.size := by have := hb1.size; simp at this; omega
  have hg := ho.lt g rfl
  have oth : ∀ k, k ≠ w1.heap.size → k < w1.heap.size → ((w1.alloc (.cells zero6 117)).setCells w1.heap.size 0 [.bool false, .string ⟨#[]⟩, .int .i64 0, .int .i64 0, .slice (some ⟨g, 0, none⟩) n cap, .slice none 0 0]).heap[k]? = w1.heap[k]? := fun k hk hl => by
    rw [heap_setCells_other _ _ _ _ _ hk]
    exact Below.heap_alloc _ _ _ hl
  have low : ∀ k, k < w.heap.size → w1.heap[k]? = w.heap[k]? := fun k hk => by
    rw [hb1.block k (by simp; omega)]
    exact Below.heap_alloc _ _ _ hk
  have FR : Fr (fun k => k = b) w ((w1.alloc (.cells zero6 117)).setCells w1.heap.size 0 [.bool false, .string ⟨#[]⟩, .int .i64 0, .int .i64 0, .slice (some ⟨g, 0, none⟩) n cap, .slice none 0 0]) := by
    have q : Below w.heap.size w w1 := ((Below.refl _ w).alloc (Nat.le_refl _) (.cells zero6 117)).trans (hb1.mono (by simp))
    exact Fr.of_below (Below.setCells (q.alloc (by omega) _) (by omega) _ _)
  refine ⟨h.keep (by rw [oth b (by omega) (by omega), low b hlt]), ?_, ?_, ?_, World.ownsRow_nil _ _ _ _, ?_, ?_, ?_, FR, hlt, Nat.le_refl _, by omega, by omega⟩
  · have q : (w1.alloc (.cells zero6 117)).heap[w1.heap.size]? = some (.cells zero6 117 (0, 0)) := heap_alloc_new _ _
    simp only [World.setCells]
    rw [heap_set1 _ _ 5 _ _ _ _ (heap_set1 _ _ 4 _ _ _ _ (heap_set1 _ _ 3 _ _ _ _ (heap_set1 _ _ 2 _ _ _ _ (heap_set1 _ _ 1 _ _ _ _ (heap_set1 _ _ 0 _ _ _ _ q)))))]
    simp [zero6, sp0, SP.cells]
  · rw [oth _ (by omega) hs, hb1.block _ (by simp)]
    exact heap_alloc_new _ _
  · show World.ownsRow _ _ _ _ (.slice (some ⟨g, 0, none⟩) n cap) (List.replicate n 0).length (ivs (List.replicate n 0))
    rw [List.length_replicate]
    refine ownsRow_base (ownsRow_keep ho (fun k hk => ?_)) (fun k hk => by have := (ho.lt k hk).1; simp at this; omega)
    have := ho.lt k hk
    exact oth k (by omega) this.2
  · intro k hk
    have : k = g := by simpa [sp0, Value.ownBlock] using hk.symm
    subst this
    simp at hg
    exact ⟨by omega, by omega⟩
  · intro k hk; simp [sp0, Value.ownBlock] at hk
  · intro k hk; simp [sp0, Value.ownBlock] at hk

theorem Sx.cells6 {w wr : World} {b : Nat} {s : ByteArray} {x : Nat × Bool} {rb xb : Nat} {c : SP} (h : Sx w wr b s x rb xb c) : wr.cell? ⟨xb, 0, none⟩ = some (.bool c.there) ∧ wr.cell? ⟨xb, 1, none⟩ = some (.string c.text) ∧ wr.cell? ⟨xb, 2, none⟩ = some (.int .i64 c.by_) ∧ wr.cell? ⟨xb, 3, none⟩ = some (.int .i64 c.num) ∧ wr.cell? ⟨xb, 4, none⟩ = some c.chv ∧ wr.cell? ⟨xb, 5, none⟩ = some c.tmv := by
  refine ⟨?_, ?_, ?_, ?_, ?_, ?_⟩ <;> rw [h.cell] <;> rfl

theorem hasAt_no {s : ByteArray} {a : Nat} {no : Bool} {p : ByteArray} (h : hasAt s a no p = true) : no = false := by
  unfold hasAt at h
  cases no
  · rfl
  · simp at h
theorem passed_yes {s : ByteArray} {a : Nat} {no : Bool} {p : ByteArray} (h : hasAt s a no p = true) : passed s a no p = a + p.size := by unfold passed; rw [if_pos h]
theorem passed_no {s : ByteArray} {a : Nat} {no : Bool} {p : ByteArray} (h : hasAt s a no p = false) : passed s a no p = a := by unfold passed; rw [if_neg (by rw [h]; simp)]

set_option maxRecDepth 100000 in
set_option maxHeartbeats 4000000 in
theorem spot_none (b : Nat) (s : ByteArray) (x : Nat × Bool) (n : Nat) (h1 : 1 ≤ n) (h6 : n ≤ 6) (w : World) (h : Rd w b s x.1 x.2) (x1 y : Nat × Bool) (T1 : (Nat × Bool) × List Int) (hx1 : wantS s blank x = x1) (hx2 : timeS s n x1 = T1) (hy : wantS s blank T1.1 = y)
    (hh : hasAt s y.1 y.2 dashNl = true) :
    Calls Tryz.prog 101 #[.pointer (some ⟨b, 0, none⟩), .int .i64 n] w fun e w' => ∃ c : SP, e = .returned (.agg c.cells.toArray) ∧ Sp w w' b s c ⟨(y.1 + 2, false), false, [], 0, 0, List.replicate n 0, T1.2⟩ := by
  have hsz := size_Spot
  have HB : Hid (∀ w1 g cap, _ → _ → Sx _ _ _ _ _ _ _ _) := fun w1 g cap ho hb1 => Sx.begin (n := n) (g := g) (cap := cap) (w1 := w1) h ho hb1
  have HL : Hid (0 < T1.2.length) := by unfold Hid; rw [← hx2, timeS_len]; omega
  have hst : (passed s y.1 y.2 dashNl, y.2) = (y.1 + 2, false) := by rw [passed_yes hh, hasAt_no hh]; rfl
  clear h
  go_enter Tryz.func101, Tryz.ntmps101
  go_wp2_with (first
    | (go_at_call 98; have q := S4; refine (S4.out.is dashNl (by decide)).mono ?_; rw [hh, hst]; rintro e w5 ⟨rfl, h5⟩; have S5 := hide h5; have c2 := h5.rd.c2; obtain ⟨k0, k1, k2, k3, k4, k5⟩ := h5.cells6; dsimp only [sp0] at k0 k1 k2 k3 k4 k5; have hth := h5.there; clear h5)
    | (go_at_call 50; have q := S3r; have S3 := S3r.out.putTm; refine (S3.want blank (by decide)).mono ?_; rw [hy]; rintro e w4 ⟨rfl, h4⟩; have S4 := hide h4; clear h4 k5 f5)
    | (go_at_call 52; have q := S2; refine (S2.out.time n h6).mono ?_; rw [hx2]; rintro e w3 ⟨v, rfl, h3⟩; obtain ⟨g3, c3, rfl, _, _⟩ := World.ownsRow.form h3.own HL.out; have k5 := h3.sx.cells6.2.2.2.2.2; have f5 := h3.sx.fz 5; have S3r := hide h3; clear h3)
    | (go_at_call 50; have q := hb1; have S1 := HB.out _ _ _ ho1 hb1; refine (S1.want blank (by decide)).mono ?_; rw [hx1]; rintro e w2 ⟨rfl, h2⟩; have S2 := hide h2; clear h2)
    | (go_at_call 49; refine (zeros_form n h1 h6 _).mono ?_; rintro e w1 ⟨g1, c1, rfl, ho1, hg1, hl1, hb1⟩; have ht1 : (w1.alloc (.cells zero6 117)).there w1.heap.size 0 6 := (Mine.made' w1 zero6 117 (n := 6) rfl).there; simp only [zero6] at ht1))
  refine bodyPost_ret (ret_cell1 Tryz.results101 (a := ⟨w.heap.size, 0, none⟩) rfl (load_stored (cs := [_, _, _, _, _, _]) hth Tryz.underlying117 rfl size_Spot)) rfl ?_
  exact ⟨_, rfl, S5.out.done (r := ⟨(y.1 + 2, false), false, [], 0, 0, List.replicate n 0, T1.2⟩) rfl rfl rfl rfl rfl rfl _⟩

set_option maxRecDepth 100000 in
set_option maxHeartbeats 4000000 in
theorem spot_no (b : Nat) (s : ByteArray) (x : Nat × Bool) (n : Nat) (h1 : 1 ≤ n) (h6 : n ≤ 6) (w : World) (h : Rd w b s x.1 x.2) (x1 y : Nat × Bool) (T1 : (Nat × Bool) × List Int) (hx1 : wantS s blank x = x1) (hx2 : timeS s n x1 = T1) (hy : wantS s blank T1.1 = y)
    (hh : hasAt s y.1 y.2 dashNl = false) (hn : y.2 = true) :
    Calls Tryz.prog 101 #[.pointer (some ⟨b, 0, none⟩), .int .i64 n] w fun e w' => ∃ c : SP, e = .returned (.agg c.cells.toArray) ∧ Sp w w' b s c ⟨y, false, [], 0, 0, List.replicate n 0, T1.2⟩ := by
  have hsz := size_Spot
  have HB : Hid (∀ w1 g cap, _ → _ → Sx _ _ _ _ _ _ _ _) := fun w1 g cap ho hb1 => Sx.begin (n := n) (g := g) (cap := cap) (w1 := w1) h ho hb1
  have HL : Hid (0 < T1.2.length) := by unfold Hid; rw [← hx2, timeS_len]; omega
  have hst : (passed s y.1 y.2 dashNl, y.2) = y := by rw [passed_no hh]
  clear h
  go_enter Tryz.func101, Tryz.ntmps101
  go_wp2_with (first
    | (go_at_call 98; have q := S4; refine (S4.out.is dashNl (by decide)).mono ?_; rw [hh, hst]; rintro e w5 ⟨rfl, h5⟩; have S5 := hide h5; have c2 := h5.rd.c2; rw [hn] at c2; obtain ⟨k0, k1, k2, k3, k4, k5⟩ := h5.cells6; dsimp only [sp0] at k0 k1 k2 k3 k4 k5; have hth := h5.there; clear h5)
    | (go_at_call 50; have q := S3r; have S3 := S3r.out.putTm; refine (S3.want blank (by decide)).mono ?_; rw [hy]; rintro e w4 ⟨rfl, h4⟩; have S4 := hide h4; clear h4 k5 f5)
    | (go_at_call 52; have q := S2; refine (S2.out.time n h6).mono ?_; rw [hx2]; rintro e w3 ⟨v, rfl, h3⟩; obtain ⟨g3, c3, rfl, _, _⟩ := World.ownsRow.form h3.own HL.out; have k5 := h3.sx.cells6.2.2.2.2.2; have f5 := h3.sx.fz 5; have S3r := hide h3; clear h3)
    | (go_at_call 50; have q := hb1; have S1 := HB.out _ _ _ ho1 hb1; refine (S1.want blank (by decide)).mono ?_; rw [hx1]; rintro e w2 ⟨rfl, h2⟩; have S2 := hide h2; clear h2)
    | (go_at_call 49; refine (zeros_form n h1 h6 _).mono ?_; rintro e w1 ⟨g1, c1, rfl, ho1, hg1, hl1, hb1⟩; have ht1 : (w1.alloc (.cells zero6 117)).there w1.heap.size 0 6 := (Mine.made' w1 zero6 117 (n := 6) rfl).there; simp only [zero6] at ht1))
  refine bodyPost_ret (ret_cell1 Tryz.results101 (a := ⟨w.heap.size, 0, none⟩) rfl (load_stored (cs := [_, _, _, _, _, _]) hth Tryz.underlying117 rfl size_Spot)) rfl ?_
  exact ⟨_, rfl, S5.out.done (r := ⟨y, false, [], 0, 0, List.replicate n 0, T1.2⟩) rfl rfl rfl rfl rfl rfl _⟩


end Go.Proofs.YtaelaldmibgibaaGreatDoor

namespace Go.Proofs.YtaelaldmibgibaaGreatDoor
open Go.RowKit
attribute [local go_sem ↓] stSpot
attribute [local go_sem] run_stSpot

theorem bs_inj' {p q : ByteArray} (h : p.data.toList = q.data.toList) : p = q := by
  obtain ⟨⟨l⟩⟩ := p
  obtain ⟨⟨m⟩⟩ := q
  have : l = m := h
  rw [this]
theorem conv1 (w : World) (z : Int) (k : Nat) (hz : z = k) (hk : k < 256) : (convert 53 9 (.slice (some ⟨w.heap.size, 0, none⟩) 1 1)).run Tryz.prog (w.alloc (.cells #[.int .u8 z] 5)) = .ok (.string ⟨#[UInt8.ofNat k]⟩) (w.alloc (.cells #[.int .u8 z] 5)) := by
  refine run_convert_bytes_back (P := Tryz.prog) _ 53 9 5 ⟨w.heap.size, 0, none⟩ 1 [UInt8.ofNat k] Tryz.underlying53 Tryz.underlying5 Tryz.underlying9 (fun j hj => ?_)
  have : j = 0 := by simpa using hj
  subst this
  have e : (UInt8.ofNat k).toNat = k := by rw [UInt8.toNat_ofNat']; omega
  have q : (w.alloc (.cells #[.int .u8 z] 5)).heap[w.heap.size]? = some (.cells #[.int .u8 z] 5 (0, 0)) := heap_alloc_new _ _
  show World.cell? _ (⟨w.heap.size, 0, none⟩ : Addr) = _
  simp only [World.cell?, q, List.getElem_cons_zero, e]
  rw [hz]
  rfl

theorem want_true (s p : ByteArray) (a : Nat) : wantS s p (a, true) = (a, true) := by
  have h : hasAt s a true p = false := by unfold hasAt; simp
  unfold wantS
  simp only [h, passed_no h]
  rfl

set_option maxRecDepth 100000 in
set_option maxHeartbeats 4000000 in
theorem spot_in (b : Nat) (s : ByteArray) (x : Nat × Bool) (n : Nat) (h1 : 1 ≤ n) (h6 : n ≤ 6) (w : World) (h : Rd w b s x.1 x.2) (x1 y z1 z2 z3 z4 z5 t : Nat × Bool) (T1 T2 : (Nat × Bool) × List Int) (hx1 : wantS s blank x = x1) (hx2 : timeS s n x1 = T1) (hy : wantS s blank T1.1 = y)
    (hh : hasAt s y.1 y.2 dashNl = false) (hn : y.2 = false) (hz1 : numS s y = z1) (hz2 : (z1.1, z1.2 || decide (n ≤ numVal s y.1)) = z2) (hz3 : wantS s colon z2 = z3) (hz4 : numS s z3 = z4) (hz5 : wantS s blank z4 = z5) (hT2 : timeS s n z5 = T2) (ht : wantS s blankEq T2.1 = t) (hin : numVal s y.1 < n) :
    Calls Tryz.prog 101 #[.pointer (some ⟨b, 0, none⟩), .int .i64 n] w fun e w' => ∃ c : SP, e = .returned (.agg c.cells.toArray) ∧ Sp w w' b s c ⟨wantS s newl (spotHex s t).1, true, (spotHex s t).2, numVal s y.1, numVal s z3.1, T2.2, T1.2⟩ := by
  have hsz := size_Spot
  have HB : Hid (∀ w1 g cap, _ → _ → Sx _ _ _ _ _ _ _ _) := fun w1 g cap ho hb1 => Sx.begin (n := n) (g := g) (cap := cap) (w1 := w1) h ho hb1
  have HL : Hid (0 < T1.2.length) := by unfold Hid; rw [← hx2, timeS_len]; omega
  have HL2 : Hid (0 < T2.2.length) := by unfold Hid; rw [← hT2, timeS_len]; omega
  have hst : (passed s y.1 y.2 dashNl, y.2) = y := by rw [passed_no hh]
  have hz2' : z1 = z2 := by rw [← hz2, decide_eq_false (by omega : ¬ n ≤ numVal s y.1), Bool.or_false]
  have dn : decide ((n : Int) ≤ (numVal s y.1 : Int)) = false := by simp; omega
  clear h
  go_enter Tryz.func101, Tryz.ntmps101
  go_wp2_with (first
    | (go_at_call 50; have q := S10r; have S10 := S10r.out.putCh; refine (S10.want blankEq (by decide)).mono ?_; rw [ht]; rintro e w11 ⟨rfl, h11⟩; have S11 := hide h11; clear h11 S10r)
    | (go_at_call 52; have q := S9; refine (S9.out.time n h6).mono ?_; rw [hT2]; rintro e w10 ⟨v, rfl, h10⟩; obtain ⟨g10, c10, rfl, _, _⟩ := World.ownsRow.form h10.own HL2.out; have k4 := h10.sx.cells6.2.2.2.2.1; have f4 := h10.sx.fz 4; have S10r := hide h10; clear h10 S9)
    | (go_at_call 50; have q := S8; refine ((S8.out.putNum _).want blank (by decide)).mono ?_; rw [hz5]; rintro e w9 ⟨rfl, h9⟩; have S9 := hide h9; clear h9 S8)
    | (go_at_call 51; have q := S7; refine (S7.out.num).mono ?_; rw [hz4]; rintro e w8 ⟨rfl, h8⟩; have k3 := h8.cells6.2.2.2.1; have f3 := h8.fz 3; have S8 := hide h8; clear h8 S7)
    | (go_at_call 50; have q := S6; refine ((S6.out.putBy _).want colon (by decide)).mono ?_; rw [hz2', hz3]; rintro e w7 ⟨rfl, h7⟩; have S7 := hide h7; clear h7 S6)
    | (go_at_call 51; have q := S5; refine ((S5.out.putThere true).num).mono ?_; rw [hz1]; rintro e w6 ⟨rfl, h6'⟩; have k2 := h6'.cells6.2.2.1; have f2 := h6'.fz 2; have S6 := hide h6'; clear h6' S5)
    | (go_at_call 98; have q := S4; refine (S4.out.is dashNl (by decide)).mono ?_; rw [hh, hst]; rintro e w5 ⟨rfl, h5⟩; have S5 := hide h5; have c2 := h5.rd.c2; rw [hn] at c2; have k0 := h5.cells6.1; have f0 := h5.fz 0; clear h5 S4)
    | (go_at_call 50; have q := S3r; have S3 := S3r.out.putTm; refine (S3.want blank (by decide)).mono ?_; rw [hy]; rintro e w4 ⟨rfl, h4⟩; have S4 := hide h4; clear h4 k5 f5 S3r)
    | (go_at_call 52; have q := S2; refine (S2.out.time n h6).mono ?_; rw [hx2]; rintro e w3 ⟨v, rfl, h3⟩; obtain ⟨g3, c3, rfl, _, _⟩ := World.ownsRow.form h3.own HL.out; have k5 := h3.sx.cells6.2.2.2.2.2; have f5 := h3.sx.fz 5; have S3r := hide h3; clear h3 S2)
    | (go_at_call 50; have q := hb1; have S1 := HB.out _ _ _ ho1 hb1; refine (S1.want blank (by decide)).mono ?_; rw [hx1]; rintro e w2 ⟨rfl, h2⟩; have S2 := hide h2; clear h2 hb1)
    | (go_at_call 49; refine (zeros_form n h1 h6 _).mono ?_; rintro e w1 ⟨g1, c1, rfl, ho1, hg1, hl1, hb1⟩; have ht1 : (w1.alloc (.cells zero6 117)).there w1.heap.size 0 6 := (Mine.made' w1 zero6 117 (n := 6) rfl).there; simp only [zero6] at ht1))
  obtain ⟨ta, no⟩ := t
  cases no with
  | true =>
    have HX : Hid (spotHex s (ta, true) = ((ta, true), [])) := by unfold Hid spotHex; rw [if_pos rfl]
    go_loopw [7] (fun v wr => Hid (Sx w wr b s (ta, true) w.heap.size w1.heap.size ⟨true, ⟨#[]⟩, numVal s y.1, numVal s z3.1, .slice (some ⟨g10, 0, none⟩) T2.2.length c10, T2.2, .slice (some ⟨g3, 0, none⟩) T1.2.length c3, T1.2⟩)) (fun _ _ => 0)
    case atStart => exact S11
    case round =>
      have c2 := hrel.out.rd.c2
      clear S11
      go_wp2_with fail
      go_quiet (fail)
      go_wp2_with (go_at_call 50; refine ((hrel.out.drewN _).want newl (by decide)).mono ?_; rintro e w12 ⟨rfl, h12⟩; have S12 := hide h12; obtain ⟨k0, k1, k2, k3, k4, k5⟩ := h12.cells6; dsimp only at k0 k1 k2 k3 k4 k5; have hth := h12.there; clear h12 hrel)
      refine bodyPost_ret (ret_cell1 Tryz.results101 (a := ⟨w.heap.size, 0, none⟩) rfl (load_stored (cs := [_, _, _, _, _, _]) hth Tryz.underlying117 rfl size_Spot)) rfl ?_
      rw [HX.out]
      exact ⟨_, rfl, S12.out.done (r := ⟨wantS s newl (ta, true), true, [], numVal s y.1, numVal s z3.1, T2.2, T1.2⟩) rfl rfl rfl rfl rfl rfl _⟩
  | false =>
    have HX : Hid (spotHex s (ta, false) = hexS s (s.size - ta) ta []) := by unfold Hid spotHex; rw [if_neg (by simp)]
    have hta := S11.out.rd.ha
    have hss := S11.out.rd.hs
    go_loopw [7] (fun v wr => ∃ (a : Nat) (u : Bs) (f : Nat), s.size - a ≤ f ∧ Hid (Sx w wr b s (a, false) w.heap.size w1.heap.size ⟨true, ⟨u.toArray⟩, numVal s y.1, numVal s z3.1, .slice (some ⟨g10, 0, none⟩) T2.2.length c10, T2.2, .slice (some ⟨g3, 0, none⟩) T1.2.length c3, T1.2⟩) ∧ Hid (hexS s (s.size - ta) ta [] = hexS s f a u)) (fun _ wr => s.size - (intOf (cv wr b 1)).toNat)
    case atStart => exact ⟨ta, [], _, Nat.le_refl _, S11, rfl⟩
    case round =>
      obtain ⟨a, u, f, hf, hS, hE⟩ := hrel
      have c0 := hS.out.rd.c0
      have c1 := hS.out.rd.c1
      have c2 := hS.out.rd.c2
      have x1c := hS.out.c1
      have f1x := hS.out.fz 1
      have f1 := hS.out.rd.fz 1
      have f2 := hS.out.rd.fz 2
      have ha := hS.out.rd.ha
      dsimp only at c1 c2 x1c ha
      have hcv : cv wr b 1 = .int .i64 a := by simp [cv, c1]
      clear S11
      by_cases hgo : a + 1 < s.size ∧ byteAt s a ≠ 10
      · have HG := hide hgo
        obtain ⟨hx, hne⟩ := hgo
        have hx0 : a < s.size := by omega
        have d1 : decide ((a : Int) + 1 < (s.size : Int)) = true := by simp; omega
        have e0 := byteAt_eq s a hx0
        have e1 := byteAt_eq s (a + 1) hx
        have d2 : ((s[a].toNat : Int) != 10) = true := by rw [← e0]; simpa using hne
        have V0 : Hid (∀ W : World, Calls Tryz.prog 166 #[.int .u8 (s[a].toNat : Int)] W fun e w' => e = .returned (.int .i64 (valOf (byteAt s a))) ∧ w' = W) := fun W => by rw [e0]; exact value_any _ W
        have V1 : Hid (∀ W : World, Calls Tryz.prog 166 #[.int .u8 (s[a + 1].toNat : Int)] W fun e w' => e = .returned (.int .i64 (valOf (byteAt s (a + 1)))) ∧ w' = W) := fun W => by rw [e1]; exact value_any _ W
        have hxI : (a : Int) + 1 < (s.size : Int) := by omega
        have hx0I : (0 : Int) ≤ (a : Int) + 1 := by omega
        have hnat : ((a : Int) + 1).toNat = a + 1 := by omega
        clear e0 e1 hne
        go_wp2_with fail
        go_quiet (fail)
        go_wp2_with fail
        go_quiet ((go_at_call 166; exact (V0.out _).mono fun _ _ h => ⟨h.1, _, h.2⟩))
        go_wp2_with fail
        go_quiet ((go_at_call 166; exact (V1.out _).mono fun _ _ h => ⟨h.1, _, h.2⟩))
        have hfs : f ≠ 0 := by omega
        obtain ⟨f', rfl⟩ : ∃ f', f = f' + 1 := ⟨f - 1, by omega⟩
        have hexE : Hid (hexS s (f' + 1) a u = if valOf (byteAt s a) < 0 ∨ valOf (byteAt s (a + 1)) < 0 ∨ 60 ≤ u.length then ((a, true), u) else hexS s f' (a + 2) (u ++ [UInt8.ofNat (16 * (valOf (byteAt s a)).toNat + (valOf (byteAt s (a + 1))).toNat)])) := by
          unfold Hid
          rw [hexS, if_pos (HG.out)]
        have SPA : Hid (0 ≤ valOf (byteAt s a) → ∃ j : Nat, valOf (byteAt s a) = j ∧ j < 16) := fun q => by obtain ⟨j, e1, e2, _⟩ := valOf_spec _ q; exact ⟨j, e1, e2⟩
        have SPB : Hid (0 ≤ valOf (byteAt s (a + 1)) → ∃ j : Nat, valOf (byteAt s (a + 1)) = j ∧ j < 16) := fun q => by obtain ⟨j, e1, e2, _⟩ := valOf_spec _ q; exact ⟨j, e1, e2⟩
        clear V0 V1
        generalize valOf (byteAt s a) = va at *
        generalize valOf (byteAt s (a + 1)) = vb at *
        have hul : (⟨u.toArray⟩ : ByteArray).size = u.length := by simp [ByteArray.size]
        by_cases hbad : va < 0 ∨ vb < 0 ∨ 60 ≤ u.length
        · rw [if_pos hbad] at hexE
          have E : Hid (hexS s (s.size - ta) ta [] = ((a, true), u)) := hE.out.trans hexE.out
          have how : decide (va < 0) = true ∨ (decide (va < 0) = false ∧ decide (vb < 0) = true) ∨ (decide (va < 0) = false ∧ decide (vb < 0) = false ∧ decide ((60 : Int) ≤ (u.length : Int)) = true ∧ decide (60 ≤ u.length) = true) := by
            by_cases q1 : va < 0
            · exact .inl (by simpa using q1)
            · by_cases q2 : vb < 0
              · exact .inr (.inl ⟨by simpa using q1, by simpa using q2⟩)
              · refine .inr (.inr ⟨by simpa using q1, by simpa using q2, ?_⟩)
                have : 60 ≤ u.length := (hbad.resolve_left q1).resolve_left q2
                exact ⟨by simp; omega, by simpa using this⟩
          clear hexE SPA SPB hul
          rcases how with d3 | ⟨d3, d4⟩ | ⟨d3, d4, d5, d6⟩
          all_goals
            obtain ⟨k0, _, k2, k3, k4, k5⟩ := hS.out.cells6
            dsimp only at k0 k2 k3 k4 k5
            have hth : ∀ q, ((wr.drewN q).setCell ⟨b, 2, none⟩ (.bool true)).there w.heap.size 0 6 := fun q => ((hS.out.drewN q).setNo true).there
            have hbx : w1.heap.size ≠ b := by have := hS.out.hx; have := hS.out.hb; omega
            have hbx' : b ≠ w1.heap.size := fun e => hbx e.symm
            go_wp2
            refine bodyPost_ret (ret_cell1 Tryz.results101 (a := ⟨w.heap.size, 0, none⟩) rfl (load_stored (cs := [_, _, _, _, _, _]) (hth _) Tryz.underlying117 rfl size_Spot)) rfl ?_
            rw [HX.out, E.out, want_true]
            exact ⟨_, rfl, ((hS.out.drewN _).setNo true).done (r := ⟨(a, true), true, u, numVal s y.1, numVal s z3.1, T2.2, T1.2⟩) rfl rfl rfl rfl rfl rfl _⟩
        · rw [if_neg hbad] at hexE
          obtain ⟨ja, rfl, hja⟩ := SPA.out (by omega)
          obtain ⟨jb, rfl, hjb⟩ := SPB.out (by omega)
          have hu60 : u.length < 60 := by omega
          have d3 : decide ((ja : Int) < 0) = false := by simp
          have d4 : decide ((jb : Int) < 0) = false := by simp
          have d5 : decide ((60 : Int) ≤ (u.length : Int)) = false := by simp; omega
          obtain ⟨cc, hcc⟩ : ∃ cc, cc = UInt8.ofNat (16 * ja + jb) := ⟨_, rfl⟩
          have EN : Hid (hexS s (s.size - ta) ta [] = hexS s f' (a + 2) (u ++ [cc])) := by
            unfold Hid
            rw [hE.out, hexE.out, hcc]
            simp only [Int.toNat_natCast]
          have hcat : Hid ((⟨u.toArray⟩ : ByteArray) ++ ⟨#[cc]⟩ = ⟨(u ++ [cc]).toArray⟩) := by unfold Hid; apply bs_inj'; simp
          have SS : Hid (∀ q o, Sx w ((((wr.drewN q).alloc o).setCell ⟨w1.heap.size, 1, none⟩ (.string ((⟨u.toArray⟩ : ByteArray) ++ ⟨#[cc]⟩))).setCell ⟨b, 1, none⟩ (.int .i64 ((a : Int) + 2))) b s (a + 2, false) w.heap.size w1.heap.size ⟨true, (⟨u.toArray⟩ : ByteArray) ++ ⟨#[cc]⟩, numVal s y.1, numVal s z3.1, .slice (some ⟨g10, 0, none⟩) T2.2.length c10, T2.2, .slice (some ⟨g3, 0, none⟩) T1.2.length c3, T1.2⟩) := fun q o => by
            have := (((hS.out.drewN q).alloc o).putText ((⟨u.toArray⟩ : ByteArray) ++ ⟨#[cc]⟩)).setAt (a + 2) (by omega)
            rwa [Int.natCast_add] at this
          have M' : Hid (∀ q o, cv ((((wr.drewN q).alloc o).setCell ⟨w1.heap.size, 1, none⟩ (.string ((⟨u.toArray⟩ : ByteArray) ++ ⟨#[cc]⟩))).setCell ⟨b, 1, none⟩ (.int .i64 ((a : Int) + 2))) b 1 = .int .i64 ((a + 2 : Nat) : Int)) := fun q o => by simp only [cv, (SS.out q o).rd.c1, Option.getD_some]
          have hconv : ∀ q, (convert 53 9 (.slice (some ⟨wr.heap.size, 0, none⟩) 1 1)).run Tryz.prog ((wr.drewN q).alloc (.cells #[.int .u8 (16 * (ja : Int) + (jb : Int))] 5)) = .ok (.string ⟨#[cc]⟩) ((wr.drewN q).alloc (.cells #[.int .u8 (16 * (ja : Int) + (jb : Int))] 5)) := fun q => by rw [hcc]; exact conv1 (wr.drewN q) _ (16 * ja + jb) (by omega) (by omega)
          have hbx : w1.heap.size ≠ b := by have := hS.out.hx; have := hS.out.hb; omega
          have hbx' : b ≠ w1.heap.size := fun e => hbx e.symm
          have hsz60 : (⟨u.toArray⟩ : ByteArray).size < 60 := by rw [hul]; exact hu60
          have hA1 : ∀ q o, ((wr.drewN q).alloc o).cell? ⟨w1.heap.size, 1, none⟩ = some (.string ⟨u.toArray⟩) := fun q o => ((hS.out.drewN q).alloc o).c1
          have hA2 : ∀ q o, ((wr.drewN q).alloc o).frozen? ⟨w1.heap.size, 1, none⟩ = false := fun q o => ((hS.out.drewN q).alloc o).fz 1
          have hB1 : ∀ q o v, (((wr.drewN q).alloc o).setCell ⟨w1.heap.size, 1, none⟩ (.string v)).cell? ⟨b, 1, none⟩ = some (.int .i64 a) := fun q o v => (((hS.out.drewN q).alloc o).putText v).rd.c1
          have hB2 : ∀ q o v, (((wr.drewN q).alloc o).setCell ⟨w1.heap.size, 1, none⟩ (.string v)).frozen? ⟨b, 1, none⟩ = false := fun q o v => (((hS.out.drewN q).alloc o).putText v).rd.fz 1
          clear SPA SPB hul hbad hcc hexE hE
          go_wp2
          go_roundw
          case rel =>
            refine ⟨a + 2, u ++ [cc], f', by omega, ?_, EN⟩
            rw [← hcat.out]
            exact SS.out _ _
          case measure =>
            rw [M'.out, hcv]
            simp only [intOf, Int.toNat_natCast]
            omega
      · have E : Hid (hexS s (s.size - ta) ta [] = ((a, false), u)) := by
          refine hE.out.trans ?_
          cases f with
          | zero => rfl
          | succ f => rw [hexS, if_neg hgo]
        have how : decide ((a : Int) + 1 < (s.size : Int)) = false ∨ ∃ hx : a < s.size, decide ((a : Int) + 1 < (s.size : Int)) = true ∧ ((s[a].toNat : Int) != 10) = false := by
          by_cases hx : a + 1 < s.size
          · have hx0 : a < s.size := by omega
            refine .inr ⟨hx0, by simp; omega, ?_⟩
            rw [← byteAt_eq s a hx0]
            have : byteAt s a = 10 := Classical.byContradiction fun q => hgo ⟨hx, q⟩
            simp [this]
          · exact .inl (by simp; omega)
        clear hE hgo
        rcases how with d1 | ⟨hx0, d1, d2⟩
        all_goals
          go_wp2_with fail
          go_quiet (fail)
          go_wp2_with (go_at_call 50; refine ((hS.out.drewN _).want newl (by decide)).mono ?_; rintro e w12 ⟨rfl, h12⟩; have S12 := hide h12; obtain ⟨k0, k1, k2, k3, k4, k5⟩ := h12.cells6; dsimp only at k0 k1 k2 k3 k4 k5; have hth := h12.there; clear h12 hS)
          refine bodyPost_ret (ret_cell1 Tryz.results101 (a := ⟨w.heap.size, 0, none⟩) rfl (load_stored (cs := [_, _, _, _, _, _]) hth Tryz.underlying117 rfl size_Spot)) rfl ?_
          rw [HX.out, E.out]
          exact ⟨_, rfl, S12.out.done (r := ⟨wantS s newl (a, false), true, u, numVal s y.1, numVal s z3.1, T2.2, T1.2⟩) rfl rfl rfl rfl rfl rfl _⟩

end Go.Proofs.YtaelaldmibgibaaGreatDoor

namespace Go.Proofs.YtaelaldmibgibaaGreatDoor
open Go.RowKit
attribute [local go_sem ↓] stSpot
attribute [local go_sem] run_stSpot

theorem num_true (s : ByteArray) (a : Nat) : (numS s (a, true)).2 = true := by simp [numS]
theorem want_true2 (s p : ByteArray) (x : Nat × Bool) (h : x.2 = true) : (wantS s p x).2 = true := by
  obtain ⟨a, no⟩ := x
  simp only at h
  subst h
  rw [want_true]
theorem timeStep_true (s : ByteArray) (i : Nat) (x : Nat × Bool) (h : x.2 = true) : (timeStep s i x).2 = true := by
  unfold timeStep
  split
  · exact h
  · exact want_true2 s comma x h
theorem time_true (s : ByteArray) (n : Nat) (x : Nat × Bool) (h : x.2 = true) : (timeS s n x).1.2 = true := by
  induction n with
  | zero => exact h
  | succ n ih =>
    have := timeStep_true s n _ ih
    simp only [timeS, numS, this, Bool.true_or]
theorem num_true2 (s : ByteArray) (x : Nat × Bool) (h : x.2 = true) : (numS s x).2 = true := by simp [numS, h]
theorem t_true {s : ByteArray} {n : Nat} {z1 z2 z3 z4 z5 t : Nat × Bool} {T2 : (Nat × Bool) × List Int} (hz2 : (z1.1, true) = z2) (hz3 : wantS s colon z2 = z3) (hz4 : numS s z3 = z4) (hz5 : wantS s blank z4 = z5) (hT2 : timeS s n z5 = T2) (ht : wantS s blankEq T2.1 = t) : t.2 = true := by
  rw [← ht]
  refine want_true2 _ _ _ ?_
  rw [← hT2]
  refine time_true _ _ _ ?_
  rw [← hz5]
  refine want_true2 _ _ _ ?_
  rw [← hz4]
  refine num_true2 _ _ ?_
  rw [← hz3]
  refine want_true2 _ _ _ ?_
  rw [← hz2]

set_option maxRecDepth 100000 in
set_option maxHeartbeats 4000000 in
theorem spot_out (b : Nat) (s : ByteArray) (x : Nat × Bool) (n : Nat) (h1 : 1 ≤ n) (h6 : n ≤ 6) (w : World) (h : Rd w b s x.1 x.2) (x1 y z1 z2 z3 z4 z5 t : Nat × Bool) (T1 T2 : (Nat × Bool) × List Int) (hx1 : wantS s blank x = x1) (hx2 : timeS s n x1 = T1) (hy : wantS s blank T1.1 = y)
    (hh : hasAt s y.1 y.2 dashNl = false) (hn : y.2 = false) (hz1 : numS s y = z1) (hz2 : (z1.1, z1.2 || decide (n ≤ numVal s y.1)) = z2) (hz3 : wantS s colon z2 = z3) (hz4 : numS s z3 = z4) (hz5 : wantS s blank z4 = z5) (hT2 : timeS s n z5 = T2) (ht : wantS s blankEq T2.1 = t) (hin : n ≤ numVal s y.1) :
    Calls Tryz.prog 101 #[.pointer (some ⟨b, 0, none⟩), .int .i64 n] w fun e w' => ∃ c : SP, e = .returned (.agg c.cells.toArray) ∧ Sp w w' b s c ⟨wantS s newl (spotHex s t).1, true, (spotHex s t).2, numVal s y.1, numVal s z3.1, T2.2, T1.2⟩ := by
  have hsz := size_Spot
  have HB : Hid (∀ w1 g cap, _ → _ → Sx _ _ _ _ _ _ _ _) := fun w1 g cap ho hb1 => Sx.begin (n := n) (g := g) (cap := cap) (w1 := w1) h ho hb1
  have HL : Hid (0 < T1.2.length) := by unfold Hid; rw [← hx2, timeS_len]; omega
  have HL2 : Hid (0 < T2.2.length) := by unfold Hid; rw [← hT2, timeS_len]; omega
  have hst : (passed s y.1 y.2 dashNl, y.2) = y := by rw [passed_no hh]
  have hz2' : (z1.1, true) = z2 := by rw [← hz2, decide_eq_true hin, Bool.or_true]
  have dn : decide ((n : Int) ≤ (numVal s y.1 : Int)) = true := by simp; omega
  clear h
  go_enter Tryz.func101, Tryz.ntmps101
  go_wp2_with (first
    | (go_at_call 50; have q := S10r; have S10 := S10r.out.putCh; refine (S10.want blankEq (by decide)).mono ?_; rw [ht]; rintro e w11 ⟨rfl, h11⟩; have S11 := hide h11; clear h11 S10r)
    | (go_at_call 52; have q := S9; refine (S9.out.time n h6).mono ?_; rw [hT2]; rintro e w10 ⟨v, rfl, h10⟩; obtain ⟨g10, c10, rfl, _, _⟩ := World.ownsRow.form h10.own HL2.out; have k4 := h10.sx.cells6.2.2.2.2.1; have f4 := h10.sx.fz 4; have S10r := hide h10; clear h10 S9)
    | (go_at_call 50; have q := S8; refine ((S8.out.putNum _).want blank (by decide)).mono ?_; rw [hz5]; rintro e w9 ⟨rfl, h9⟩; have S9 := hide h9; clear h9 S8)
    | (go_at_call 51; have q := S7; refine (S7.out.num).mono ?_; rw [hz4]; rintro e w8 ⟨rfl, h8⟩; have k3 := h8.cells6.2.2.2.1; have f3 := h8.fz 3; have S8 := hide h8; clear h8 S7)
    | (go_at_call 50; have q := S6; refine (((S6.out.putBy _).setNo true).want colon (by decide)).mono ?_; rw [hz2', hz3]; rintro e w7 ⟨rfl, h7⟩; have S7 := hide h7; clear h7 S6)
    | (go_at_call 51; have q := S5; refine ((S5.out.putThere true).num).mono ?_; rw [hz1]; rintro e w6 ⟨rfl, h6'⟩; have k2 := h6'.cells6.2.2.1; have f2 := h6'.fz 2; have b2 := (h6'.putBy (numVal s y.1)).rd.c2; have b2f := (h6'.putBy (numVal s y.1)).rd.fz 2; have S6 := hide h6'; clear h6' S5)
    | (go_at_call 98; have q := S4; refine (S4.out.is dashNl (by decide)).mono ?_; rw [hh, hst]; rintro e w5 ⟨rfl, h5⟩; have S5 := hide h5; have c2 := h5.rd.c2; rw [hn] at c2; have k0 := h5.cells6.1; have f0 := h5.fz 0; clear h5 S4)
    | (go_at_call 50; have q := S3r; have S3 := S3r.out.putTm; refine (S3.want blank (by decide)).mono ?_; rw [hy]; rintro e w4 ⟨rfl, h4⟩; have S4 := hide h4; clear h4 k5 f5 S3r)
    | (go_at_call 52; have q := S2; refine (S2.out.time n h6).mono ?_; rw [hx2]; rintro e w3 ⟨v, rfl, h3⟩; obtain ⟨g3, c3, rfl, _, _⟩ := World.ownsRow.form h3.own HL.out; have k5 := h3.sx.cells6.2.2.2.2.2; have f5 := h3.sx.fz 5; have S3r := hide h3; clear h3 S2)
    | (go_at_call 50; have q := hb1; have S1 := HB.out _ _ _ ho1 hb1; refine (S1.want blank (by decide)).mono ?_; rw [hx1]; rintro e w2 ⟨rfl, h2⟩; have S2 := hide h2; clear h2 hb1)
    | (go_at_call 49; refine (zeros_form n h1 h6 _).mono ?_; rintro e w1 ⟨g1, c1, rfl, ho1, hg1, hl1, hb1⟩; have ht1 : (w1.alloc (.cells zero6 117)).there w1.heap.size 0 6 := (Mine.made' w1 zero6 117 (n := 6) rfl).there; simp only [zero6] at ht1))
  obtain ⟨ta, no⟩ := t
  cases no with
  | true =>
    have HX : Hid (spotHex s (ta, true) = ((ta, true), [])) := by unfold Hid spotHex; rw [if_pos rfl]
    go_loopw [7] (fun v wr => Hid (Sx w wr b s (ta, true) w.heap.size w1.heap.size ⟨true, ⟨#[]⟩, numVal s y.1, numVal s z3.1, .slice (some ⟨g10, 0, none⟩) T2.2.length c10, T2.2, .slice (some ⟨g3, 0, none⟩) T1.2.length c3, T1.2⟩)) (fun _ _ => 0)
    case atStart => exact S11
    case round =>
      have c2 := hrel.out.rd.c2
      clear S11
      go_wp2_with fail
      go_quiet (fail)
      go_wp2_with (go_at_call 50; refine ((hrel.out.drewN _).want newl (by decide)).mono ?_; rintro e w12 ⟨rfl, h12⟩; have S12 := hide h12; obtain ⟨k0, k1, k2, k3, k4, k5⟩ := h12.cells6; dsimp only at k0 k1 k2 k3 k4 k5; have hth := h12.there; clear h12 hrel)
      refine bodyPost_ret (ret_cell1 Tryz.results101 (a := ⟨w.heap.size, 0, none⟩) rfl (load_stored (cs := [_, _, _, _, _, _]) hth Tryz.underlying117 rfl size_Spot)) rfl ?_
      rw [HX.out]
      exact ⟨_, rfl, S12.out.done (r := ⟨wantS s newl (ta, true), true, [], numVal s y.1, numVal s z3.1, T2.2, T1.2⟩) rfl rfl rfl rfl rfl rfl _⟩
  | false =>
    exact absurd (t_true hz2' hz3 hz4 hz5 hT2 ht) (by simp)

theorem spot_any (b : Nat) (s : ByteArray) (x : Nat × Bool) (n : Nat) (h1 : 1 ≤ n) (h6 : n ≤ 6) (w : World) (h : Rd w b s x.1 x.2) :
    Calls Tryz.prog 101 #[.pointer (some ⟨b, 0, none⟩), .int .i64 n] w fun e w' => ∃ c : SP, e = .returned (.agg c.cells.toArray) ∧ Sp w w' b s c (spotS s n x) := by
  unfold spotS
  split
  · next hh => exact spot_none b s x n h1 h6 w h _ _ _ rfl rfl rfl hh
  · next hh =>
    have hh' := Bool.eq_false_iff.2 hh
    split
    · next hn => exact spot_no b s x n h1 h6 w h _ _ _ rfl rfl rfl hh' hn
    · next hn =>
      have hn' := Bool.eq_false_iff.2 hn
      by_cases hin : numVal s (wantS s blank (timeS s n (wantS s blank x)).1).1 < n
      · exact spot_in b s x n h1 h6 w h _ _ _ _ _ _ _ _ _ _ rfl rfl rfl hh' hn' rfl rfl rfl rfl rfl rfl rfl hin
      · exact spot_out b s x n h1 h6 w h _ _ _ _ _ _ _ _ _ _ rfl rfl rfl hh' hn' rfl rfl rfl rfl rfl rfl rfl (by omega)

end Go.Proofs.YtaelaldmibgibaaGreatDoor

namespace Go.Proofs.YtaelaldmibgibaaGreatDoor
open Go.RowKit

/-- a spot in memory is what was read -/
structure SpIs (c : SP) (r : SpR) : Prop where
  th : c.there = r.there
  tx : c.text = ⟨r.text.toArray⟩
  by_ : c.by_ = r.by_
  num : c.num = r.num
  ch : c.ch = r.ch
  tm : c.tm = r.tm

/-- the lists of the i-th spot that was read for replica q: whose they are -/
structure RdSp (w : World) (ρ : Nat → Nat × Nat) (n q i : Nat) (s : SP) : Prop where
  ch : intRow w s.chv s.ch
  chl : s.ch.length = n
  chr : role ρ s.chv (40 + q, 2 * i)
  tm : intRow w s.tmv s.tm
  tml : s.tm.length = n
  tmr : role ρ s.tmv (40 + q, 2 * i + 1)
theorem RdSp.keep {w w' : World} {ρ : Nat → Nat × Nat} {n q i : Nat} {s : SP} (h : RdSp w ρ n q i s) (hk : ∀ k, (ρ k).1 ≠ 0 → w'.heap[k]? = w.heap[k]?) : RdSp w' ρ n q i s :=
  ⟨ownsRow_keep h.ch (fun k e => hk k (by rw [h.chr k e]; simp)), h.chl, h.chr, ownsRow_keep h.tm (fun k e => hk k (by rw [h.tmr k e]; simp)), h.tml, h.tmr⟩
theorem RdSp.upd {w : World} {ρ : Nat → Nat × Nat} {n q i : Nat} {s : SP} (h : RdSp w ρ n q i s) {k : Nat} {x : Nat × Nat} (hk : (ρ k).1 = 0) : RdSp w (upd ρ k x) n q i s :=
  ⟨h.ch, h.chl, role_upd h.chr hk (by simp), h.tm, h.tml, role_upd h.tmr hk (by simp)⟩

/-- a reader, paths and spots that were read; ρ: whose a block is -/
structure Rcs (w wr : World) (b : Nat) (s : ByteArray) (x : Nat × Bool) (ρ : Nat → Nat × Nat) (n q : Nat) (ps : List ByteArray) (rs : List SpR) (lv ov : Value) (cs : List SP) : Prop where
  rd : Rd wr b s x.1 x.2
  ol : wr.ownsRow w.heap.size 9 1 lv ps.length (svs ps)
  oo : wr.ownsRow w.heap.size 117 6 ov cs.length (spv cs)
  len : cs.length = rs.length
  is : ∀ (i : Nat) c r, cs[i]? = some c → rs[i]? = some r → SpIs c r
  ok : ∀ (i : Nat) c, cs[i]? = some c → RdSp wr ρ n q i c
  rl : role ρ lv (20, q)
  ro : role ρ ov (21, q)
  lo : ∀ k, (ρ k).1 ≠ 0 → w.heap.size ≤ k ∧ k < wr.heap.size
  fr : Fr (fun k => k = b) w wr
  hb : b < w.heap.size

theorem Rcs.start {w : World} {b : Nat} {s : ByteArray} {x : Nat × Bool} (n q : Nat) (h : Rd w b s x.1 x.2) : Rcs w w b s x (fun _ => (0, 0)) n q [] [] (.slice none 0 0) (.slice none 0 0) [] :=
  ⟨h, World.ownsRow_nil _ _ _ _, World.ownsRow_nil _ _ _ _, rfl, fun i c r hc => by simp at hc, fun i c hc => by simp at hc, fun k hk => by simp [Value.ownBlock] at hk, fun k hk => by simp [Value.ownBlock] at hk, fun k hk => by simp at hk, Fr.refl _ _, h.lt⟩

section
variable {w wr w' : World} {b : Nat} {s : ByteArray} {x y : Nat × Bool} {ρ : Nat → Nat × Nat} {n q : Nat} {ps : List ByteArray} {rs : List SpR} {lv ov : Value} {cs : List SP}

theorem Rcs.free (h : Rcs w wr b s x ρ n q ps rs lv ov cs) {k : Nat} (hk : wr.heap.size ≤ k) : (ρ k).1 = 0 := by
  rcases Nat.decEq (ρ k).1 0 with e | e
  · have := (h.lo k e).2; omega
  · exact e
/-- the reader alone has turned, and what nobody here owns -/
theorem Rcs.keep (h : Rcs w wr b s x ρ n q ps rs lv ov cs) (hr : Rd w' b s y.1 y.2) (hf : Fr (fun k => k = b) w w') (hs : wr.heap.size ≤ w'.heap.size) (hk : ∀ k, (ρ k).1 ≠ 0 → w'.heap[k]? = wr.heap[k]?) : Rcs w w' b s y ρ n q ps rs lv ov cs :=
  ⟨hr, ownsRow_keep h.ol (fun k e => hk k (by rw [h.rl k e]; simp)), ownsRow_keep h.oo (fun k e => hk k (by rw [h.ro k e]; simp)), h.len, h.is, fun i c hc => (h.ok i c hc).keep hk, h.rl, h.ro, fun k e => ⟨(h.lo k e).1, Nat.lt_of_lt_of_le (h.lo k e).2 hs⟩, hf, h.hb⟩
theorem Rcs.onRd (h : Rcs w wr b s x ρ n q ps rs lv ov cs) (hr : Rd w' b s y.1 y.2) (hf : Fr (fun k => k = b) wr w') : Rcs w w' b s y ρ n q ps rs lv ov cs :=
  h.keep hr (h.fr.trans hf) hf.size (fun k e => hf.block k (h.lo k e).2 (fun hkb => by have := (h.lo k e).1; have := h.hb; omega))
theorem Rcs.below (h : Rcs w wr b s x ρ n q ps rs lv ov cs) (hf : Below wr.heap.size wr w') : Rcs w w' b s x ρ n q ps rs lv ov cs :=
  h.onRd (h.rd.keep (hf.block b h.rd.lt)) (Fr.of_below hf)
theorem Rcs.drewN (h : Rcs w wr b s x ρ n q ps rs lv ov cs) (m : Nat) : Rcs w (wr.drewN m) b s x ρ n q ps rs lv ov cs :=
  h.onRd (h.rd.keep rfl) ((Fr.refl _ _).drewN m)
theorem Rcs.setNo (h : Rcs w wr b s x ρ n q ps rs lv ov cs) (u : Bool) : Rcs w (wr.setCell ⟨b, 2, none⟩ (.bool u)) b s (x.1, u) ρ n q ps rs lv ov cs :=
  h.onRd (h.rd.setNo u) ((Fr.refl (fun k => k = b) wr).setCell (.inl rfl) _)
theorem Rcs.path (h : Rcs w wr b s x ρ n q ps rs lv ov cs) :
    Calls Tryz.prog 100 #[.pointer (some ⟨b, 0, none⟩)] wr fun e w' => e = .returned (.string (pathText s x.1)) ∧ Rcs w w' b s (pathAt s x.1, x.2 || !pathOk (pathText s x.1)) ρ n q ps rs lv ov cs := by
  refine (path_any b s x.1 x.2 wr h.rd).mono ?_
  rintro e w' ⟨rfl, hr, hf⟩
  exact ⟨rfl, h.onRd hr hf⟩
theorem Rcs.line (h : Rcs w wr b s x ρ n q ps rs lv ov cs) :
    Calls Tryz.prog 99 #[.pointer (some ⟨b, 0, none⟩)] wr fun e w' => e = .returned (.bool (lineB s x.1)) ∧ Rcs w w' b s x ρ n q ps rs lv ov cs := by
  refine (line_any b s x.1 x.2 wr h.rd).mono ?_
  rintro e w' ⟨rfl, m, rfl⟩
  exact ⟨rfl, h.drewN m⟩
end

theorem spotS_len (s : ByteArray) (n : Nat) (x : Nat × Bool) : (spotS s n x).ch.length = n ∧ (spotS s n x).tm.length = n := by
  unfold spotS
  split
  · exact ⟨by simp, by simp [timeS_len]⟩
  · split
    · exact ⟨by simp, by simp [timeS_len]⟩
    · exact ⟨by simp [spotB, timeS_len], by simp [spotB, timeS_len]⟩

/-- a spot is read: it belongs to replica q -/
theorem Rcs.spot {w wr : World} {b : Nat} {s : ByteArray} {x : Nat × Bool} {ρ : Nat → Nat × Nat} {n q : Nat} {ps : List ByteArray} {rs : List SpR} {lv ov : Value} {cs : List SP} (h : Rcs w wr b s x ρ n q ps rs lv ov cs) (h1 : 1 ≤ n) (h6 : n ≤ 6) :
    Calls Tryz.prog 101 #[.pointer (some ⟨b, 0, none⟩), .int .i64 n] wr fun e w' => ∃ c ρ', e = .returned (.agg c.cells.toArray) ∧ Rcs w w' b s (spotS s n x).st ρ' n q ps rs lv ov cs ∧ RdSp w' ρ' n q cs.length c ∧ SpIs c (spotS s n x) := by
  refine (spot_any b s x n h1 h6 wr h.rd).mono ?_
  rintro e w' ⟨c, rfl, hS⟩
  have hl := spotS_len s n x
  have lc : c.ch.length = n := by rw [hS.ch]; exact hl.1
  have lt : c.tm.length = n := by rw [hS.tm]; exact hl.2
  have hR := h.onRd hS.rd hS.fr
  obtain ⟨gc, cc, ec, hgc, hgcl⟩ := World.ownsRow.form hS.och (by omega)
  obtain ⟨gt, ct, et, hgt, hgtl⟩ := World.ownsRow.form hS.otm (by omega)
  have hne : gt ≠ gc := fun e => hS.apart gt (by rw [et]; rfl) (by rw [ec, e]; rfl)
  have f1 : (ρ gc).1 = 0 := h.free hgc
  have f2 : (upd ρ gc (40 + q, 2 * cs.length) gt).1 = 0 := by
    unfold upd
    rw [if_neg hne]
    exact h.free hgt
  have hz := h.fr.size
  refine ⟨c, upd (upd ρ gc (40 + q, 2 * cs.length)) gt (40 + q, 2 * cs.length + 1), rfl, ?_, ?_, ⟨hS.th, hS.tx, hS.by_, hS.num, hS.ch, hS.tm⟩⟩
  · refine ⟨hR.rd, hR.ol, hR.oo, hR.len, hR.is, fun i y hy => ((hR.ok i y hy).upd f1).upd f2, role_upd (role_upd hR.rl f1 (by simp)) f2 (by simp), role_upd (role_upd hR.ro f1 (by simp)) f2 (by simp), fun k hk => ?_, hR.fr, hR.hb⟩
    unfold upd at hk
    by_cases e2 : k = gt
    · subst e2; exact ⟨by omega, hgtl⟩
    · rw [if_neg e2] at hk
      by_cases e1 : k = gc
      · subst e1; exact ⟨by omega, hgcl⟩
      · rw [if_neg e1] at hk
        exact hR.lo k hk
  · refine ⟨ownsRow_base hS.och (fun _ _ => Nat.zero_le _), lc, ?_, ownsRow_base hS.otm (fun _ _ => Nat.zero_le _), lt, ?_⟩
    · intro k hk
      have : k = gc := by rw [ec] at hk; simpa [Value.ownBlock] using hk.symm
      subst this
      unfold upd
      rw [if_neg (fun e => hne e.symm), if_pos rfl]
    · intro k hk
      have : k = gt := by rw [et] at hk; simpa [Value.ownBlock] using hk.symm
      subst this
      unfold upd
      rw [if_pos rfl]

/-- a row has grown by one: who owns it now -/
theorem grown_role {W : World} {ρ : Nat → Nat × Nat} {v : Value} {g : Nat} {z : Nat × Nat} (hr : role ρ v z) (hat : v.ownBlock = some g ∨ g = W.heap.size) (hfree : ∀ k, W.heap.size ≤ k → (ρ k).1 = 0) :
    ∃ ρ' : Nat → Nat × Nat, ρ' g = z ∧ (∀ k, k ≠ g → ρ' k = ρ k) ∧ ((ρ g).1 ≠ 0 → ρ' g = ρ g) := by
  refine ⟨upd ρ g z, by unfold upd; rw [if_pos rfl], fun k hk => by unfold upd; rw [if_neg hk], fun hg => ?_⟩
  rcases hat with e | e
  · rw [hr g e]; unfold upd; rw [if_pos rfl]
  · exact absurd (hfree g (by omega)) hg

theorem Rcs.pushL {w W w1 : World} {b : Nat} {s : ByteArray} {x : Nat × Bool} {ρ : Nat → Nat × Nat} {n q : Nat} {ps : List ByteArray} {rs : List SpR} {lv ov : Value} {cs : List SP} (h : Rcs w W b s x ρ n q ps rs lv ov cs) (y : ByteArray) (g m cap : Nat)
    (hown : w1.ownsRow w.heap.size 9 1 (.slice (some ⟨g, 0, none⟩) m cap) (ps.length + 1) (svs ps ++ [.string y])) (hg : W.grownBy w1 lv.ownBlock) (hat : lv.ownBlock = some g ∨ g = W.heap.size) :
    ∃ ρ', Rcs w w1 b s x ρ' n q (ps ++ [y]) rs (.slice (some ⟨g, 0, none⟩) m cap) ov cs ∧ (∀ i c, RdSp W ρ n q i c → RdSp w1 ρ' n q i c) ∧ ∀ k, k ≠ g → ρ' k = ρ k := by
  obtain ⟨ρ', e1, e2, e3⟩ := grown_role h.rl hat (fun k hk => h.free hk)
  have hglt := (hown.lt g rfl)
  have keepB : ∀ k, (ρ k).1 ≠ 0 → ρ k ≠ (20, q) → w1.heap[k]? = W.heap[k]? := fun k hk hq => hg.block k (h.lo k hk).2 (fun e => hq (h.rl k e.symm))
  have up : ∀ k z, ρ k = z → z.1 ≠ 0 → ρ' k = z := fun k z hz hz0 => by
    by_cases hk : k = g
    · subst hk; rw [e3 (by rw [hz]; exact hz0), hz]
    · rw [e2 k hk, hz]
  have okk : ∀ i c, RdSp W ρ n q i c → RdSp w1 ρ' n q i c := fun i c hc =>
    ⟨ownsRow_keep hc.ch (fun k e => keepB k (by rw [hc.chr k e]; simp) (by rw [hc.chr k e]; simp; omega)), hc.chl, fun k e => up k _ (hc.chr k e) (by simp), ownsRow_keep hc.tm (fun k e => keepB k (by rw [hc.tmr k e]; simp) (by rw [hc.tmr k e]; simp; omega)), hc.tml, fun k e => up k _ (hc.tmr k e) (by simp)⟩
  have hbn : some b ≠ lv.ownBlock := fun e => by have := (h.ol.lt b e.symm).1; have := h.hb; omega
  have hbW : b < W.heap.size := h.rd.lt
  refine ⟨ρ', ⟨h.rd.keep (hg.block b hbW hbn), ?_, ?_, h.len, h.is, fun i c hc => okk i c (h.ok i c hc), ?_, fun k e => up k _ (h.ro k e) (by simp), fun k hk => ?_, h.fr.grown hg (fun k e => .inr (h.ol.lt k e).1), h.hb⟩, okk, e2⟩
  · rw [List.length_append, svs_append]; exact hown
  · exact ownsRow_keep h.oo (fun k e => keepB k (by rw [h.ro k e]; simp) (by rw [h.ro k e]; simp))
  · intro k hk
    have : k = g := by simpa [Value.ownBlock] using hk.symm
    subst this
    exact e1
  · by_cases hkg : k = g
    · subst hkg; exact hglt
    · rw [e2 k hkg] at hk
      exact ⟨(h.lo k hk).1, Nat.lt_of_lt_of_le (h.lo k hk).2 hg.size⟩

theorem Rcs.pushO {w W w1 : World} {b : Nat} {s : ByteArray} {x : Nat × Bool} {ρ : Nat → Nat × Nat} {n q : Nat} {ps : List ByteArray} {rs : List SpR} {lv ov : Value} {cs : List SP} (h : Rcs w W b s x ρ n q ps rs lv ov cs) (c : SP) (r : SpR) (hc : RdSp W ρ n q cs.length c) (hi : SpIs c r) (g m cap : Nat)
    (hown : w1.ownsRow w.heap.size 117 6 (.slice (some ⟨g, 0, none⟩) m cap) (cs.length + 1) (spv cs ++ c.cells)) (hg : W.grownBy w1 ov.ownBlock) (hat : ov.ownBlock = some g ∨ g = W.heap.size) :
    ∃ ρ', Rcs w w1 b s x ρ' n q ps (rs ++ [r]) lv (.slice (some ⟨g, 0, none⟩) m cap) (cs ++ [c]) := by
  obtain ⟨ρ', e1, e2, e3⟩ := grown_role h.ro hat (fun k hk => h.free hk)
  have hglt := (hown.lt g rfl)
  have keepB : ∀ k, (ρ k).1 ≠ 0 → ρ k ≠ (21, q) → w1.heap[k]? = W.heap[k]? := fun k hk hq => hg.block k (h.lo k hk).2 (fun e => hq (h.ro k e.symm))
  have up : ∀ k z, ρ k = z → z.1 ≠ 0 → ρ' k = z := fun k z hz hz0 => by
    by_cases hk : k = g
    · subst hk; rw [e3 (by rw [hz]; exact hz0), hz]
    · rw [e2 k hk, hz]
  have okk : ∀ i c, RdSp W ρ n q i c → RdSp w1 ρ' n q i c := fun i c hc =>
    ⟨ownsRow_keep hc.ch (fun k e => keepB k (by rw [hc.chr k e]; simp) (by rw [hc.chr k e]; simp; omega)), hc.chl, fun k e => up k _ (hc.chr k e) (by simp), ownsRow_keep hc.tm (fun k e => keepB k (by rw [hc.tmr k e]; simp) (by rw [hc.tmr k e]; simp; omega)), hc.tml, fun k e => up k _ (hc.tmr k e) (by simp)⟩
  have hbn : some b ≠ ov.ownBlock := fun e => by have := (h.oo.lt b e.symm).1; have := h.hb; omega
  have hbW : b < W.heap.size := h.rd.lt
  refine ⟨ρ', ⟨h.rd.keep (hg.block b hbW hbn), ?_, ?_, by simp [h.len], ?_, ?_, fun k e => up k _ (h.rl k e) (by simp), ?_, fun k hk => ?_, h.fr.grown hg (fun k e => .inr (h.oo.lt k e).1), h.hb⟩⟩
  · exact ownsRow_keep h.ol (fun k e => keepB k (by rw [h.rl k e]; simp) (by rw [h.rl k e]; simp))
  · rw [List.length_append, spv_append]
    have : spv [c] = c.cells := by simp [spv]
    rw [this]
    exact hown
  · intro i c' r' hc' hr'
    rcases Nat.lt_or_ge i cs.length with hi' | hi'
    · rw [List.getElem?_append_left hi'] at hc'
      rw [List.getElem?_append_left (by rw [← h.len]; exact hi')] at hr'
      exact h.is i c' r' hc' hr'
    · rw [List.getElem?_append_right hi'] at hc'
      rw [List.getElem?_append_right (by rw [← h.len]; exact hi')] at hr'
      have : i = cs.length := by
        rcases Nat.eq_or_lt_of_le hi' with e | e
        · exact e.symm
        · rw [List.getElem?_eq_none (by simp; omega)] at hc'; cases hc'
      subst this
      rw [← h.len] at hr'
      simp at hc' hr'
      subst hc' hr'
      exact hi
  · intro i c' hc'
    rcases Nat.lt_or_ge i cs.length with hi' | hi'
    · rw [List.getElem?_append_left hi'] at hc'
      exact okk i c' (h.ok i c' hc')
    · rw [List.getElem?_append_right hi'] at hc'
      have : i = cs.length := by
        rcases Nat.eq_or_lt_of_le hi' with e | e
        · exact e.symm
        · rw [List.getElem?_eq_none (by simp; omega)] at hc'; cases hc'
      subst this
      simp at hc'
      subst hc'
      exact okk _ _ hc
  · intro k hk
    have : k = g := by simpa [Value.ownBlock] using hk.symm
    subst this
    exact e1
  · by_cases hkg : k = g
    · subst hkg; exact hglt
    · rw [e2 k hkg] at hk
      exact ⟨(h.lo k hk).1, Nat.lt_of_lt_of_le (h.lo k hk).2 hg.size⟩

/-- .. and one spot more, which lies in block xb -/
structure Rcx (w W : World) (b : Nat) (s : ByteArray) (x : Nat × Bool) (ρ : Nat → Nat × Nat) (n q : Nat) (ps : List ByteArray) (rs : List SpR) (lv ov : Value) (cs : List SP) (c : SP) (r : SpR) (xb : Nat) : Prop where
  rc : Rcs w W b s x ρ n q ps rs lv ov cs
  ok : RdSp W ρ n q cs.length c
  is : SpIs c r
  blk : W.heap[xb]? = some (.cells c.cells.toArray 117 (0, 0))
  hx : w.heap.size ≤ xb
  free : (ρ xb).1 = 0

section
variable {w W w1 : World} {b : Nat} {s : ByteArray} {x : Nat × Bool} {ρ : Nat → Nat × Nat} {n q : Nat} {ps : List ByteArray} {rs : List SpR} {lv ov : Value} {cs : List SP} {c : SP} {r : SpR} {xb : Nat}

theorem Rcx.made (h : Rcs w W b s x ρ n q ps rs lv ov cs) (ok : RdSp W ρ n q cs.length c) (is : SpIs c r) : Rcx w ((W.alloc (.cells zero6 117)).setCells W.heap.size 0 c.cells) b s x ρ n q ps rs lv ov cs c r W.heap.size := by
  have B : Below W.heap.size W ((W.alloc (.cells zero6 117)).setCells W.heap.size 0 c.cells) := Below.setCells ((Below.refl _ W).alloc (Nat.le_refl _) _) (Nat.le_refl _) _ _
  refine ⟨h.below B, ok.keep (fun k hk => B.block k (h.lo k hk).2), is, ?_, h.fr.size, h.free (Nat.le_refl _)⟩
  have q : (W.alloc (.cells zero6 117)).heap[W.heap.size]? = some (.cells zero6 117 (0, 0)) := heap_alloc_new _ _
  simp only [World.setCells, SP.cells]
  rw [heap_set1 _ _ 5 _ _ _ _ (heap_set1 _ _ 4 _ _ _ _ (heap_set1 _ _ 3 _ _ _ _ (heap_set1 _ _ 2 _ _ _ _ (heap_set1 _ _ 1 _ _ _ _ (heap_set1 _ _ 0 _ _ _ _ q)))))]
  simp [zero6]
theorem Rcx.xlt (h : Rcx w W b s x ρ n q ps rs lv ov cs c r xb) : xb < W.heap.size := (Array.getElem?_eq_some_iff.1 h.blk).1
theorem Rcx.cells6 (h : Rcx w W b s x ρ n q ps rs lv ov cs c r xb) : W.cell? ⟨xb, 0, none⟩ = some (.bool c.there) ∧ W.cell? ⟨xb, 1, none⟩ = some (.string c.text) ∧ W.cell? ⟨xb, 2, none⟩ = some (.int .i64 c.by_) ∧ W.cell? ⟨xb, 3, none⟩ = some (.int .i64 c.num) ∧ W.cell? ⟨xb, 4, none⟩ = some c.chv ∧ W.cell? ⟨xb, 5, none⟩ = some c.tmv := by
  refine ⟨?_, ?_, ?_, ?_, ?_, ?_⟩ <;> simp only [World.cell?, h.blk] <;> rfl
theorem Rcx.setNo (h : Rcx w W b s x ρ n q ps rs lv ov cs c r xb) (u : Bool) : Rcx w (W.setCell ⟨b, 2, none⟩ (.bool u)) b s (x.1, u) ρ n q ps rs lv ov cs c r xb := by
  have hb := h.rc.hb
  have hx := h.hx
  refine ⟨h.rc.setNo u, h.ok.keep (fun k hk => heap_set_other ?_), h.is, by rw [heap_set_other (by simp only; omega)]; exact h.blk, hx, h.free⟩
  have := (h.rc.lo k hk).1
  simp only
  omega
theorem Rcx.alloc (h : Rcx w W b s x ρ n q ps rs lv ov cs c r xb) (o : Obj) : Rcx w (W.alloc o) b s x ρ n q ps rs lv ov cs c r xb := by
  have B : Below W.heap.size W (W.alloc o) := (Below.refl _ W).alloc (Nat.le_refl _) o
  exact ⟨h.rc.below B, h.ok.keep (fun k hk => B.block k (h.rc.lo k hk).2), h.is, by rw [B.block xb h.xlt]; exact h.blk, h.hx, h.free⟩
theorem Rcx.pushL (h : Rcx w W b s x ρ n q ps rs lv ov cs c r xb) (y : ByteArray) (g m cap : Nat)
    (hown : w1.ownsRow w.heap.size 9 1 (.slice (some ⟨g, 0, none⟩) m cap) (ps.length + 1) (svs ps ++ [.string y])) (hg : W.grownBy w1 lv.ownBlock) (hat : lv.ownBlock = some g ∨ g = W.heap.size) :
    ∃ ρ', Rcx w w1 b s x ρ' n q (ps ++ [y]) rs (.slice (some ⟨g, 0, none⟩) m cap) ov cs c r xb := by
  obtain ⟨ρ', hr, hk, hz⟩ := h.rc.pushL y g m cap hown hg hat
  have hne : some xb ≠ lv.ownBlock := fun e => by have := h.rc.rl xb e.symm; have f := h.free; rw [this] at f; simp at f
  refine ⟨ρ', hr, hk _ c h.ok, h.is, by rw [hg.block xb h.xlt hne]; exact h.blk, h.hx, ?_⟩
  have hxg : xb ≠ g := fun e => by
    rcases hat with q1 | q1
    · exact hne (by rw [e]; exact q1.symm)
    · have := h.xlt; omega
  rw [hz xb hxg]
  exact h.free
theorem Rcx.pushO (h : Rcx w W b s x ρ n q ps rs lv ov cs c r xb) (g m cap : Nat)
    (hown : w1.ownsRow w.heap.size 117 6 (.slice (some ⟨g, 0, none⟩) m cap) (cs.length + 1) (spv cs ++ c.cells)) (hg : W.grownBy w1 ov.ownBlock) (hat : ov.ownBlock = some g ∨ g = W.heap.size) :
    ∃ ρ', Rcs w w1 b s x ρ' n q ps (rs ++ [r]) lv (.slice (some ⟨g, 0, none⟩) m cap) (cs ++ [c]) := h.rc.pushO c r h.ok h.is g m cap hown hg hat
end

end Go.Proofs.YtaelaldmibgibaaGreatDoor
