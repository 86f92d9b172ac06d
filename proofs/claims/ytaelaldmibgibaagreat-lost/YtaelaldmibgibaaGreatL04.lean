/- Lost over the twin: two lists of its own beside the net. -/
import Derived.Test.YtaelaldmibgibaaGreatL01
import Derived.Test.YtaelaldmibgibaaGreatL02
import Derived.Test.YtaelaldmibgibaaGreatL03
import Derived.BigQuiet
import Derived.Deep.QuietTactic

set_option linter.unusedVariables false
set_option linter.unusedSimpArgs false
set_option linter.unusedSectionVars false

namespace Go.Proofs.YtaelaldmibgibaaGreat
open Go.RowKit Go.Sim

theorem q_func6 : (twin Tryz.prog pl).funcs[6]? = some Tryz.f6 := tw_func Tryz.func6 (by decide) (by kernel_rfl)
theorem info_Errno : (Tryz.prog.info? 24).map (fun i => (i.zero, i.size, i.bytes)) = some (some (.int .i64 0), 1, 8) := by kernel_rfl
/-- blocks of the call's own change, none of the net's -/
theorem Ne.guest {w0 w w' : World} {nb : Nat} {S : List RS} {K K' : List Nat} (h : Ne w0 w nb S K) (hf : Fr (fun k => k ∈ K) w w') (hge : ∀ k ∈ K, w0.heap.size ≤ k) (hx : Fixed w') (hK : ∀ k ∈ K', (k ∈ K ∨ w.heap.size ≤ k) ∧ k < w'.heap.size) : Ne w0 w' nb S K' := by
  obtain ⟨pb, L, hN, h1, h2, h3⟩ := h.ex
  have hn : ¬ nb ∈ K := fun q => (h3 nb q).2.1 rfl
  have hp : ¬ pb ∈ K := fun q => (h3 pb q).2.2.1 rfl
  have hl : ∀ x ∈ L, ¬ x.1 ∈ K ∧ ¬ x.2 ∈ K := fun x hx => ⟨fun q => ((h3 _ q).2.2.2 x hx).1 rfl, fun q => ((h3 _ q).2.2.2 x hx).2 rfl⟩
  have hlt : ∀ x ∈ L, x.1 < w.heap.size ∧ x.2 < w.heap.size := fun z hz => by
    obtain ⟨i, hi⟩ := List.getElem?_of_mem hz
    have hil : i < S.length := by have := (List.getElem?_eq_some_iff.1 hi).1; have := hN.len; omega
    have q := hN.rep i z _ hi (List.getElem?_eq_getElem hil)
    exact ⟨q.rep.lt, q.own.lt⟩
  refine ⟨⟨pb, L, ⟨?_, fun i x s hi hs => ?_, Nat.lt_of_lt_of_le hN.nlt hf.size, Nat.lt_of_lt_of_le hN.plt hf.size, hN.apart, hN.pbk.imp fun cur hc => (hf.block pb hN.plt hp).trans hc⟩, h1, h2, fun k hk => ?_⟩, h.nge, ?_, hx, h.kin⟩
  · obtain ⟨cap, hc⟩ := hN.net.blk
    refine ⟨⟨cap, by rw [hf.block nb hN.nlt hn]; exact hc⟩, hN.net.len, fun r b hr => ?_, hN.net.n6⟩
    rw [World.cell?_of_block (w := w) (hf.block pb hN.plt hp)]
    exact hN.net.row r b hr
  · have q := hN.rep i x s hi hs
    have hm := hl x (List.mem_of_getElem? hi)
    exact q.keep (hf.block _ q.rep.lt hm.1) (hf.block _ q.own.lt hm.2)
  · obtain ⟨q, q'⟩ := hK k hk
    refine ⟨q', ?_⟩
    rcases q with q | q
    · exact (h3 k q).2
    · have := hN.nlt
      have := hN.plt
      exact ⟨by omega, by omega, fun x hx => by have := hlt x hx; omega⟩
  · have hb := h.bel
    exact ⟨hf.os.trans hb.os, hf.tape.trans hb.tape, hf.output.trans hb.output, Nat.le_trans hb.size hf.size, fun k hk => (hf.block k (by have := hb.size; omega) (fun q => by have := hge k q; omega)).trans (hb.block k hk)⟩
/-- the lists of texts and of answers -/
structure Lt (w0 w wr : World) (nb : Nat) (S : List RS) (tv ev : Value) (ts : List ByteArray) (es : List Int) : Prop where
  ne : ∃ K, Ne w0 wr nb S K ∧ (∀ k ∈ K, w.heap.size ≤ k) ∧ (∀ g, tv.ownBlock = some g → g ∈ K) ∧ (∀ g, ev.ownBlock = some g → g ∈ K)
  tr : wr.ownsRow w.heap.size 9 1 tv ts.length (svs ts)
  er : wr.ownsRow w.heap.size 24 1 ev es.length (ivs es)
  ap : ∀ g, tv.ownBlock = some g → ev.ownBlock ≠ some g
  ge : w0.heap.size ≤ w.heap.size
  sz : w.heap.size ≤ wr.heap.size
section
variable {w0 w wr wr' : World} {nb : Nat} {S : List RS} {tv ev : Value} {ts : List ByteArray} {es : List Int}
theorem Lt.more (h : Lt w0 w wr nb S tv ev ts es) (hb : Below wr.heap.size wr wr') (hx : Fixed wr') : Lt w0 w wr' nb S tv ev ts es := by
  obtain ⟨K, hN, h1, h2, h3⟩ := h.ne
  exact ⟨⟨K, (hN.more hb hx).1, h1, h2, h3⟩, ownsRow_keep h.tr (fun k e => hb.block k (World.ownsRow.lt h.tr k e).2), ownsRow_keep h.er (fun k e => hb.block k (World.ownsRow.lt h.er k e).2), h.ap, h.ge, Nat.le_trans h.sz hb.size⟩
theorem Lt.fix (h : Lt w0 w wr nb S tv ev ts es) : Fixed wr := by
  obtain ⟨K, hN, _⟩ := h.ne
  exact hN.fix
theorem Lt.alloc (h : Lt w0 w wr nb S tv ev ts es) (cs : Array Value) (t : TypeId) : Lt w0 w (wr.alloc (.cells cs t)) nb S tv ev ts es := h.more ((Below.refl _ _).alloc (Nat.le_refl _) _) (Fixed.alloc h.fix _ _)
theorem Lt.text (h : Lt w0 w wr nb S tv ev ts es) {w1 : World} {g cap : Nat} {s : ByteArray} (ho : w1.ownsRow w.heap.size 9 1 (.slice (some ⟨g, 0, none⟩) (ts.length + 1) cap) (ts.length + 1) (svs ts ++ [.string s])) (hg : wr.grownBy w1 tv.ownBlock) (hat : tv.ownBlock = some g ∨ g = wr.heap.size) (hx : Fixed w1) :
    Lt w0 w w1 nb S (.slice (some ⟨g, 0, none⟩) (ts.length + 1) cap) ev (ts ++ [s]) es := by
  obtain ⟨K, hN, h1, h2, h3⟩ := h.ne
  have hf : Fr (fun k => k ∈ K) wr w1 := ⟨hg.os, hg.tape, hg.output, hg.size, fun k hk hn => hg.block k hk (fun e => hn (h2 k e.symm))⟩
  have hgl : g < w1.heap.size := (World.ownsRow.lt ho g rfl).2
  refine ⟨⟨g :: K, hN.guest hf (fun k hk => Nat.le_trans h.ge (h1 k hk)) hx (fun k hk => ?_), fun k hk => ?_, fun k e => ?_, fun k e => List.mem_cons_of_mem _ (h3 k e)⟩, ?_, ?_, fun k e => ?_, h.ge, Nat.le_trans h.sz hg.size⟩
  · rcases List.mem_cons.1 hk with rfl | hk
    · refine ⟨?_, hgl⟩
      rcases hat with e | e
      · exact .inl (h2 _ e)
      · exact .inr (by omega)
    · obtain ⟨pb, L, _, _, _, q3⟩ := hN.ex
      exact ⟨.inl hk, Nat.lt_of_lt_of_le (q3 k hk).1 hg.size⟩
  · rcases List.mem_cons.1 hk with rfl | hk
    · exact (World.ownsRow.lt ho _ rfl).1
    · exact h1 k hk
  · simp [Value.ownBlock] at e
    rw [← e]
    exact List.mem_cons_self ..
  · rw [svs_append, List.length_append]
    exact ho
  · exact ownsRow_keep h.er (fun k e => hg.block k (World.ownsRow.lt h.er k e).2 (fun q => h.ap k q.symm e))
  · simp [Value.ownBlock] at e
    subst e
    rcases hat with e | e
    · exact h.ap _ e
    · intro q
      have := (World.ownsRow.lt h.er _ q).2
      omega
theorem Lt.err (h : Lt w0 w wr nb S tv ev ts es) {w1 : World} {g cap : Nat} {s : Int} (ho : w1.ownsRow w.heap.size 24 1 (.slice (some ⟨g, 0, none⟩) (es.length + 1) cap) (es.length + 1) (ivs es ++ [.int .i64 s])) (hg : wr.grownBy w1 ev.ownBlock) (hat : ev.ownBlock = some g ∨ g = wr.heap.size) (hx : Fixed w1) :
    Lt w0 w w1 nb S tv (.slice (some ⟨g, 0, none⟩) (es.length + 1) cap) ts (es ++ [s]) := by
  obtain ⟨K, hN, h1, h2, h3⟩ := h.ne
  have hf : Fr (fun k => k ∈ K) wr w1 := ⟨hg.os, hg.tape, hg.output, hg.size, fun k hk hn => hg.block k hk (fun e => hn (h3 k e.symm))⟩
  have hgl : g < w1.heap.size := (World.ownsRow.lt ho g rfl).2
  refine ⟨⟨g :: K, hN.guest hf (fun k hk => Nat.le_trans h.ge (h1 k hk)) hx (fun k hk => ?_), fun k hk => ?_, fun k e => List.mem_cons_of_mem _ (h2 k e), fun k e => ?_⟩, ?_, ?_, fun k e q => ?_, h.ge, Nat.le_trans h.sz hg.size⟩
  · rcases List.mem_cons.1 hk with rfl | hk
    · refine ⟨?_, hgl⟩
      rcases hat with e | e
      · exact .inl (h3 _ e)
      · exact .inr (by omega)
    · obtain ⟨pb, L, _, _, _, q3⟩ := hN.ex
      exact ⟨.inl hk, Nat.lt_of_lt_of_le (q3 k hk).1 hg.size⟩
  · rcases List.mem_cons.1 hk with rfl | hk
    · exact (World.ownsRow.lt ho _ rfl).1
    · exact h1 k hk
  · simp [Value.ownBlock] at e
    rw [← e]
    exact List.mem_cons_self ..
  · exact ownsRow_keep h.tr (fun k e => hg.block k (World.ownsRow.lt h.tr k e).2 (fun q => h.ap k e q.symm))
  · rw [ivs_append, List.length_append]
    exact ho
  · simp [Value.ownBlock] at q
    subst q
    rcases hat with e' | e'
    · exact h.ap _ e e'
    · have := (World.ownsRow.lt h.tr _ e).2
      omega
end
theorem begS_wf (n : Nat) : Wf 1 (begS n) := by
  have z0 : Wf1 0 zero0 := ⟨List.Pairwise.nil, fun x hx => by simp [zero0] at hx, fun i => Int.le_refl 0, fun i => Int.le_refl 0⟩
  have b0 : Wf1 1 beg0 := (wr_wf z0 (by decide) (by decide) (by decide) in_first _).2
  have b1 : Wf1 1 beg1 := (pl_wf (z0.mono (by decide)) b0 (by decide)).2.1
  have hn : Wf 1 (newS n) := fun s hs => by
    obtain ⟨_, rfl⟩ := List.mem_replicate.1 hs
    exact z0.mono (by decide)
  exact (hn.set 0 b0).set 1 b1
theorem begS_len (n : Nat) : (begS n).length = n := by simp [begS, newS]
end Go.Proofs.YtaelaldmibgibaaGreat
