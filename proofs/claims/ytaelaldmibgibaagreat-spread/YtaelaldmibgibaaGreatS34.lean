/- Have two replicas the same files: alike, over the twin. Meets over the twin. Lost over the twin: two lists of its own beside the net. Spread: its two lists, its net, what holds between its steps. Spread: the predicate of its round; behind a store into its two lists. Lost over the twin. Spread's steps over the twin: the write, the remove, the pull; the stores into its lists. Spread's steps over the twin: the contracts of the write, the remove, the pull. Spread over the twin: how it begins, its round, its reads. Spread over the twin: the walk. -/
import Derived.Test.YtaelaldmibgibaaGreatS33
import Derived.Test.YtaelaldmibgibaaGreatS32
import Derived.Test.YtaelaldmibgibaaGreatS30
import Derived.BigQuiet
import Derived.Deep.QuietTactic
import Derived.Deep.RegionLaw
import Derived.Deep.DeepCutAuto

set_option linter.unusedVariables false
set_option linter.unusedSimpArgs false
set_option linter.unusedSectionVars false

namespace Go.Proofs.YtaelaldmibgibaaGreat
open Go.RowKit Go.Sim

end Go.Proofs.YtaelaldmibgibaaGreat

namespace Go.Proofs.YtaelaldmibgibaaGreat
open Go.RowKit Go.Sim

theorem newS_getD (n i : Nat) : (newS n).getD i rs0 = zero0 := by
  unfold newS
  rw [List.getD_eq_getElem?_getD, List.getElem?_replicate]
  split <;> rfl
theorem newS_wf (n : Nat) : Wf 0 (newS n) := fun s hs => by
  obtain ⟨_, rfl⟩ := List.mem_replicate.1 hs
  exact ⟨List.Pairwise.nil, fun x hx => by simp at hx, fun i => Int.le_refl 0, fun i => Int.le_refl 0⟩
theorem newS_iv (n : Nat) : IvS (newS n) := by
  have e : ∀ i p, flS (newS n) i p = recN := fun i p => by unfold flS; rw [newS_getD]; rfl
  refine ⟨fun i _ p h => ?_, fun i _ p j _ => ?_, fun j _ => ?_, fun i _ j _ p h => ?_⟩
  · rw [e] at h; simp [recN] at h
  · rw [e]; unfold CS; rw [newS_getD]; exact Int.le_refl 0
  · unfold CS; rw [newS_getD]; exact Int.le_refl 0
  · rw [e] at h; simp [recN] at h
theorem begS_iv {n : Nat} (hn : 2 ≤ n) (h6 : n ≤ 6) : IvS (begS n) := by
  have hl : (newS n).length = n := by simp [newS]
  have h1 := ivs_write (by omega) (newS_iv n) (newS_wf n) (r := 0) (by omega) pFirst pText
  rw [newS_getD] at h1
  have hw : Wf 1 ((newS n).set 0 beg0) := by
    have z0 : Wf1 0 zero0 := ⟨List.Pairwise.nil, fun x hx => by simp [zero0] at hx, fun i => Int.le_refl 0, fun i => Int.le_refl 0⟩
    exact ((newS_wf n).mono (by decide)).set 0 (wr_wf z0 (by decide) (by decide) (by decide) in_first _).2
  have h2 := ivs_pull (by rw [List.length_set]; omega) h1 (by decide) hw (r := 1) (f := 0) (by rw [List.length_set]; omega) (by rw [List.length_set]; omega)
  rw [getD_set_ne (by decide), newS_getD, getD_set_self (by omega)] at h2
  exact h2
end Go.Proofs.YtaelaldmibgibaaGreat

namespace Go.Proofs.YtaelaldmibgibaaGreat
open Go.RowKit Go.Sim

theorem Ne.guest {w0 w w' : World} {nb : Nat} {S : List RS} {K K' : List Nat} (h : Ne w0 w nb S K) (hf : Fr (fun k => k ∈ K) w w') (hge : ∀ k ∈ K, w0.heap.size ≤ k) (hx : Fixed w') (hK : ∀ k ∈ K', (k ∈ K ∨ w.heap.size ≤ k) ∧ k < w'.heap.size) : Ne w0 w' nb S K' := by
  obtain ⟨pb, L, hN, h1, h2, h3⟩ := h.ex
  have hn : ¬ nb ∈ K := fun q => (h3 nb q).2.1 rfl
  have hp : ¬ pb ∈ K := fun q => (h3 pb q).2.2.1 rfl
  have hl : ∀ x ∈ L, ¬ x.1 ∈ K ∧ ¬ x.2 ∈ K := fun x hx => ⟨fun q => ((h3 _ q).2.2.2 x hx).1 rfl, fun q => ((h3 _ q).2.2.2 x hx).2 rfl⟩
  have hlt : ∀ x ∈ L, x.1 < w.heap.size ∧ x.2 < w.heap.size := fun z hz => by
    obtain ⟨i, hi⟩ := List.getElem?_of_mem hz
    have hil : i < S.length := by have := (List.getElem?_eq_some_iff.1 hi).1; have := hN.len; omega
    have q := hN.rep i z _ hi (List.getElem?_eq_getElem hil)
    exact ⟨q.rep.lt, q.own.lt⟩
  refine ⟨⟨pb, L, ⟨?_, fun i x s hi hs => ?_, Nat.lt_of_lt_of_le hN.nlt hf.size, Nat.lt_of_lt_of_le hN.plt hf.size, hN.apart, hN.pbk.imp fun cur hc => (hf.block pb hN.plt hp).trans hc⟩, h1, h2, fun k hk => ?_⟩, h.nge, ?_, hx, h.kin⟩
  · obtain ⟨cap, hc⟩ := hN.net.blk
    refine ⟨⟨cap, by rw [hf.block nb hN.nlt hn]; exact hc⟩, hN.net.len, fun r b hr => ?_, hN.net.n6⟩
    rw [World.cell?_of_block (w := w) (hf.block pb hN.plt hp)]
    exact hN.net.row r b hr
  · have q := hN.rep i x s hi hs
    have hm := hl x (List.mem_of_getElem? hi)
    exact q.keep (hf.block _ q.rep.lt hm.1) (hf.block _ q.own.lt hm.2)
  · obtain ⟨q, q'⟩ := hK k hk
    refine ⟨q', ?_⟩
    rcases q with q | q
    · exact (h3 k q).2
    · have := hN.nlt
      have := hN.plt
      exact ⟨by omega, by omega, fun x hx => by have := hlt x hx; omega⟩
  · have hb := h.bel
    exact ⟨hf.os.trans hb.os, hf.tape.trans hb.tape, hf.output.trans hb.output, Nat.le_trans hb.size hf.size, fun k hk => (hf.block k (by have := hb.size; omega) (fun q => by have := hge k q; omega)).trans (hb.block k hk)⟩
structure Lt (w0 w wr : World) (nb : Nat) (S : List RS) (tv ev : Value) (ts : List ByteArray) (es : List Int) : Prop where
  ne : ∃ K, Ne w0 wr nb S K ∧ (∀ k ∈ K, w.heap.size ≤ k) ∧ (∀ g, tv.ownBlock = some g → g ∈ K) ∧ (∀ g, ev.ownBlock = some g → g ∈ K)
  tr : wr.ownsRow w.heap.size 9 1 tv ts.length (svs ts)
  er : wr.ownsRow w.heap.size 24 1 ev es.length (ivs es)
  ap : ∀ g, tv.ownBlock = some g → ev.ownBlock ≠ some g
  ge : w0.heap.size ≤ w.heap.size
  sz : w.heap.size ≤ wr.heap.size
section
variable {w0 w wr wr' : World} {nb : Nat} {S : List RS} {tv ev : Value} {ts : List ByteArray} {es : List Int}
theorem Lt.more (h : Lt w0 w wr nb S tv ev ts es) (hb : Below wr.heap.size wr wr') (hx : Fixed wr') : Lt w0 w wr' nb S tv ev ts es := by
  obtain ⟨K, hN, h1, h2, h3⟩ := h.ne
  exact ⟨⟨K, (hN.more hb hx).1, h1, h2, h3⟩, ownsRow_keep h.tr (fun k e => hb.block k (World.ownsRow.lt h.tr k e).2), ownsRow_keep h.er (fun k e => hb.block k (World.ownsRow.lt h.er k e).2), h.ap, h.ge, Nat.le_trans h.sz hb.size⟩
theorem Lt.fix (h : Lt w0 w wr nb S tv ev ts es) : Fixed wr := by
  obtain ⟨K, hN, _⟩ := h.ne
  exact hN.fix
theorem Lt.alloc (h : Lt w0 w wr nb S tv ev ts es) (cs : Array Value) (t : TypeId) : Lt w0 w (wr.alloc (.cells cs t)) nb S tv ev ts es := h.more ((Below.refl _ _).alloc (Nat.le_refl _) _) (Fixed.alloc h.fix _ _)
theorem Lt.text (h : Lt w0 w wr nb S tv ev ts es) {w1 : World} {g cap : Nat} {s : ByteArray} (ho : w1.ownsRow w.heap.size 9 1 (.slice (some ⟨g, 0, none⟩) (ts.length + 1) cap) (ts.length + 1) (svs ts ++ [.string s])) (hg : wr.grownBy w1 tv.ownBlock) (hat : tv.ownBlock = some g ∨ g = wr.heap.size) (hx : Fixed w1) :
    Lt w0 w w1 nb S (.slice (some ⟨g, 0, none⟩) (ts.length + 1) cap) ev (ts ++ [s]) es := by
  obtain ⟨K, hN, h1, h2, h3⟩ := h.ne
  have hf : Fr (fun k => k ∈ K) wr w1 := ⟨hg.os, hg.tape, hg.output, hg.size, fun k hk hn => hg.block k hk (fun e => hn (h2 k e.symm))⟩
  have hgl : g < w1.heap.size := (World.ownsRow.lt ho g rfl).2
  refine ⟨⟨g :: K, hN.guest hf (fun k hk => Nat.le_trans h.ge (h1 k hk)) hx (fun k hk => ?_), fun k hk => ?_, fun k e => ?_, fun k e => List.mem_cons_of_mem _ (h3 k e)⟩, ?_, ?_, fun k e => ?_, h.ge, Nat.le_trans h.sz hg.size⟩
  · rcases List.mem_cons.1 hk with rfl | hk
    · refine ⟨?_, hgl⟩
      rcases hat with e | e
      · exact .inl (h2 _ e)
      · exact .inr (by omega)
    · obtain ⟨pb, L, _, _, _, q3⟩ := hN.ex
      exact ⟨.inl hk, Nat.lt_of_lt_of_le (q3 k hk).1 hg.size⟩
  · rcases List.mem_cons.1 hk with rfl | hk
    · exact (World.ownsRow.lt ho _ rfl).1
    · exact h1 k hk
  · simp [Value.ownBlock] at e
    rw [← e]
    exact List.mem_cons_self ..
  · rw [svs_append, List.length_append]
    exact ho
  · exact ownsRow_keep h.er (fun k e => hg.block k (World.ownsRow.lt h.er k e).2 (fun q => h.ap k q.symm e))
  · simp [Value.ownBlock] at e
    subst e
    rcases hat with e | e
    · exact h.ap _ e
    · intro q
      have := (World.ownsRow.lt h.er _ q).2
      omega
end
end Go.Proofs.YtaelaldmibgibaaGreat

namespace Go.Proofs.YtaelaldmibgibaaGreat
open Go.RowKit Go.Sim
open Classical

def owF (n : Nat) (p : ByteArray) : Nat := (((List.range 8).find? (fun k => decide ((pDir k).data = p.data))).getD 0) % n
theorem owF_dir (n k : Nat) (hk : k < 8) : owF n (pDir k) = k % n := by
  unfold owF
  have : ((List.range 8).find? (fun j => decide ((pDir j).data = (pDir k).data))) = some k := by
    match k, hk with
    | 0, _ | 1, _ | 2, _ | 3, _ | 4, _ | 5, _ | 6, _ | 7, _ => decide
  rw [this]
  rfl
theorem owF_first (n : Nat) : owF n pFirst = 0 := by
  unfold owF
  have : ((List.range 8).find? (fun j => decide ((pDir j).data = pFirst.data))) = none := by decide
  rw [this]
  exact Nat.zero_mod n
theorem owF_lt {n : Nat} (hn : 0 < n) (p : ByteArray) : owF n p < n := Nat.mod_lt _ hn
theorem ps_new {n : Nat} (hn : 0 < n) (h6 : n ≤ 6) (p : ByteArray) (o : Nat) (ho : o < n) : Ps n (newS n) p o (fun _ => recN) := by
  have e : ∀ i, vw i ((newS n).getD i rs0) p = ⟨⟨#[]⟩, 0, 0, fun _ => 0, fun _ => 0⟩ := fun i => by rw [newS_getD]; rfl
  refine ⟨⟨by omega, fun t h => by simp [recN] at h, fun t u h => by simp [recN] at h, fun t u h => by simp [recN] at h⟩, by simp [newS], h6, ho, fun i hi => ?_, fun i hi => ?_, fun i hi => ?_⟩
  · rw [e]
    exact ⟨.inl ⟨by simp, by simp [recN]⟩, fun _ => Int.le_refl 0, fun _ _ => rfl⟩
  · rw [e]; unfold CS; rw [newS_getD]; exact Int.le_refl 0
  · rw [newS_getD]; unfold CS; rw [newS_getD]; exact Int.le_refl 0
theorem sp_begS {n : Nat} (hn : 2 ≤ n) (h6 : n ≤ 6) : SpS n (owF n) (begS n) ∧ ∀ k < 8, rdO (owF n) (begS n) (pDir k) = (⟨#[]⟩, 4) := by
  have hl : (newS n).length = n := by simp [newS]
  have h0 : SpS n (owF n) (newS n) := fun p _ => ⟨_, ps_new (by omega) h6 p _ (owF_lt (by omega) p)⟩
  have r0 : ∀ p, rdO (owF n) (newS n) p = (⟨#[]⟩, 4) := fun p => by unfold rdO; rw [newS_getD]; rfl
  have w := h0.write (B := 0) (by decide) (by decide) (newS_wf n) in_first pText
  rw [owF_first, newS_getD] at w
  have hw : Wf 1 ((newS n).set 0 beg0) := by
    have z0 : Wf1 0 zero0 := ⟨List.Pairwise.nil, fun x hx => by simp [zero0] at hx, fun i => Int.le_refl 0, fun i => Int.le_refl 0⟩
    exact ((newS_wf n).mono (by decide)).set 0 (wr_wf z0 (by decide) (by decide) (by decide) in_first _).2
  have hp := SpS.pull (B := 1) w.1 (by decide) hw (r := 1) (f := 0) (by omega) (by omega)
  have eb : pullS ((newS n).set 0 (wrR 0 zero0 pFirst pText).2) 1 0 = begS n := by
    unfold pullS
    rw [getD_set_ne (by decide), newS_getD, getD_set_self (by omega)]
    rfl
  rw [eb] at hp
  refine ⟨hp.1, fun k hk => ?_⟩
  have hin : pDir k ∈ PATHS := by
    have := (⟨0, 0, 0, k, ⟨#[]⟩⟩ : StepO).P_in
    unfold StepO.P pickR at this
    rw [if_neg (by simp)] at this
    have e : ((k : Int) % 8).toNat = k := by omega
    rw [show (({ what := 0, r := 0, f := 0, path := (k : Int), text := ⟨#[]⟩ } : StepO).path) = (k : Int) from rfl, e] at this
    exact this
  rw [hp.2.1 _ hin, w.2 _ hin, if_neg, r0]
  intro q
  have := congrArg (fun b : ByteArray => b.size) q
  have hs := congrArg (fun b : ByteArray => b.data[3]?) q
  match k, hk with
  | 0, _ | 1, _ | 2, _ | 3, _ | 4, _ | 5, _ | 6, _ | 7, _ => revert hs; decide
def Tells (n : Nat) (S : List RS) (ts : List ByteArray) (bs : List Bool) : Prop := ∀ k < 8, rdO (owF n) S (pDir k) = if bs.getD k false = true then (ts.getD k ⟨#[]⟩, 0) else (⟨#[]⟩, 4)
structure Sx (w0 w : World) (nb n tb bb : Nat) (B : Int) (S : List RS) (ts : List ByteArray) (bs : List Bool) : Prop where
  rn : Rn w0 w nb n B [tb, bb] S
  sp : SpS n (owF n) S
  tk : w.heap[tb]? = some (.cells (ts.map Value.string).toArray 9)
  bk : w.heap[bb]? = some (.cells (bs.map Value.bool).toArray 4)
  tl : ts.length = 8
  bl : bs.length = 8
  ne : tb ≠ bb
  tg : w0.heap.size ≤ tb ∧ w0.heap.size ≤ bb
  te : Tells n S ts bs
section
variable {w0 w w' : World} {nb n tb bb : Nat} {B : Int} {S S' : List RS} {ts : List ByteArray} {bs : List Bool}
theorem Sx.turn (h : Sx w0 w nb n tb bb B S ts bs) {B' : Int} (hr : Rn w0 w' nb n B' [tb, bb] S') (hk : Keeps [tb, bb] w w') (hs : SpS n (owF n) S') (ht : Tells n S' ts bs) : Sx w0 w' nb n tb bb B' S' ts bs :=
  ⟨hr, hs, (hk tb (List.mem_cons_self ..)).trans h.tk, (hk bb (List.mem_cons_of_mem _ (List.mem_cons_self ..))).trans h.bk, h.tl, h.bl, h.ne, h.tg, ht⟩
theorem Sx.more (h : Sx w0 w nb n tb bb B S ts bs) (hb : Below w.heap.size w w') (hx : Fixed w') : Sx w0 w' nb n tb bb B S ts bs := by
  obtain ⟨h1, h2⟩ := h.rn.ne.more hb hx
  exact h.turn ⟨h1, h.rn.len, h.rn.wf, h.rn.iv⟩ h2 h.sp h.te
theorem Sx.cell (h : Sx w0 w nb n tb bb B S ts bs) {k : Nat} (hk : k < 8) : w.cell? ⟨tb, k, none⟩ = some (.string (ts.getD k ⟨#[]⟩)) ∧ w.cell? ⟨bb, k, none⟩ = some (.bool (bs.getD k false)) ∧ w.frozen? ⟨tb, k, none⟩ = false ∧ w.frozen? ⟨bb, k, none⟩ = false := by
  have l1 := h.tl
  have l2 := h.bl
  refine ⟨?_, ?_, by simp [World.frozen?, h.tk], by simp [World.frozen?, h.bk]⟩
  · simp [World.cell?, h.tk, List.getElem?_eq_getElem (show k < ts.length by omega), List.getD_eq_getElem?_getD]
  · simp [World.cell?, h.bk, List.getElem?_eq_getElem (show k < bs.length by omega), List.getD_eq_getElem?_getD]
end
end Go.Proofs.YtaelaldmibgibaaGreat

namespace Go.Proofs.YtaelaldmibgibaaGreat
open Go.RowKit Go.Sim
open Classical

def Kno (n : Nat) (S : List RS) (i : Nat) (p : ByteArray) : Prop := CS S (owF n p) ≤ (vw i (S.getD i rs0) p).kn (owF n p)
structure Pn (n : Nat) (S0 S : List RS) (r f : Nat) : Prop where
  sp : SpS n (owF n) S
  rd : ∀ p ∈ PATHS, rdO (owF n) S p = rdO (owF n) S0 p
  done : ∀ i < r, i < n → ∀ p ∈ PATHS, Kno n S i p
  cur : r < n → ∀ p ∈ PATHS, owF n p < f → Kno n S r p
theorem Pn.zero {n : Nat} {S : List RS} (h : SpS n (owF n) S) : Pn n S S 0 0 := ⟨h, fun _ _ => rfl, fun i hi => by omega, fun _ p _ hf => by omega⟩
theorem Pn.skip {n : Nat} {S0 S : List RS} {r : Nat} (h : Pn n S0 S r r) : Pn n S0 S r (r + 1) := by
  refine ⟨h.sp, h.rd, h.done, fun hr p hp hf => ?_⟩
  by_cases e : owF n p = r
  · unfold Kno
    rw [e, vw_own]
    exact Int.le_refl _
  · exact h.cur hr p hp (by omega)
theorem Pn.step {n : Nat} {B : Int} {S0 S : List RS} {r f : Nat} (h : Pn n S0 S r f) (h0 : 0 ≤ B) (hW : Wf B S) (hr : r < n) (hf : f < n) : Pn n S0 (pullS S r f) r (f + 1) := by
  obtain ⟨q1, q2, _⟩ := h.sp.pull h0 hW hr hf
  refine ⟨q1, fun p hp => (q2 p hp).trans (h.rd p hp), fun i hi hin p hp => ?_, fun _ p hp hpf => ?_⟩
  · obtain ⟨e, k, _⟩ := h.sp.knows h0 hW hr hf hp
    unfold Kno
    rw [e]
    exact k i hin (h.done i hi hin p hp)
  · obtain ⟨e, k, k2⟩ := h.sp.knows h0 hW hr hf hp
    unfold Kno
    rw [e]
    by_cases g : f = owF n p
    · exact k2 g
    · exact k r hr (h.cur hr p hp (by omega))
theorem Pn.next {n : Nat} {S0 S : List RS} {r : Nat} (hn : 0 < n) (h : Pn n S0 S r n) : Pn n S0 S (r + 1) 0 := by
  refine ⟨h.sp, h.rd, fun i hi hin p hp => ?_, fun _ p _ hf => by omega⟩
  by_cases e : i = r
  · subst e
    exact h.cur hin p hp (owF_lt hn p)
  · exact h.done i (by omega) hin p hp
theorem Pn.reads {n : Nat} {S0 S : List RS} (h : Pn n S0 S n 0) {ts : List ByteArray} {bs : List Bool} (ht : Tells n S0 ts bs) {i k : Nat} (hi : i < n) (hk : k < 8) (hin : pDir k ∈ PATHS) : rdR i (S.getD i rs0) (pDir k) = if bs.getD k false = true then (ts.getD k ⟨#[]⟩, 0) else (⟨#[]⟩, 4) := by
  rw [h.sp.read hin hi (h.done i hi hi _ hin), h.rd _ hin, ht k hk]
theorem pDir_inj {i k : Nat} (hi : i < 8) (hk : k < 8) (h : pDir i = pDir k) : i = k := by
  have hs := congrArg (fun b : ByteArray => b.data) h
  match i, hi, k, hk with
  | 0, _, 0, _ | 1, _, 1, _ | 2, _, 2, _ | 3, _, 3, _ | 4, _, 4, _ | 5, _, 5, _ | 6, _, 6, _ | 7, _, 7, _ => rfl
  | 0, _, 1, _ | 0, _, 2, _ | 0, _, 3, _ | 0, _, 4, _ | 0, _, 5, _ | 0, _, 6, _ | 0, _, 7, _ => revert hs; decide
  | 1, _, 0, _ | 1, _, 2, _ | 1, _, 3, _ | 1, _, 4, _ | 1, _, 5, _ | 1, _, 6, _ | 1, _, 7, _ => revert hs; decide
  | 2, _, 0, _ | 2, _, 1, _ | 2, _, 3, _ | 2, _, 4, _ | 2, _, 5, _ | 2, _, 6, _ | 2, _, 7, _ => revert hs; decide
  | 3, _, 0, _ | 3, _, 1, _ | 3, _, 2, _ | 3, _, 4, _ | 3, _, 5, _ | 3, _, 6, _ | 3, _, 7, _ => revert hs; decide
  | 4, _, 0, _ | 4, _, 1, _ | 4, _, 2, _ | 4, _, 3, _ | 4, _, 5, _ | 4, _, 6, _ | 4, _, 7, _ => revert hs; decide
  | 5, _, 0, _ | 5, _, 1, _ | 5, _, 2, _ | 5, _, 3, _ | 5, _, 4, _ | 5, _, 6, _ | 5, _, 7, _ => revert hs; decide
  | 6, _, 0, _ | 6, _, 1, _ | 6, _, 2, _ | 6, _, 3, _ | 6, _, 4, _ | 6, _, 5, _ | 6, _, 7, _ => revert hs; decide
  | 7, _, 0, _ | 7, _, 1, _ | 7, _, 2, _ | 7, _, 3, _ | 7, _, 4, _ | 7, _, 5, _ | 7, _, 6, _ => revert hs; decide
theorem Tells.write {n : Nat} {S S' : List RS} {ts : List ByteArray} {bs : List Bool} (h : Tells n S ts bs) (hin : ∀ k < 8, pDir k ∈ PATHS) (l1 : ts.length = 8) (l2 : bs.length = 8) {k : Nat} (hk : k < 8) (t : ByteArray) (hr : ∀ q ∈ PATHS, rdO (owF n) S' q = if q = pDir k then (t, 0) else rdO (owF n) S q) : Tells n S' (ts.set k t) (bs.set k true) := by
  intro j hj
  rw [hr _ (hin j hj)]
  by_cases e : j = k
  · subst e
    rw [if_pos rfl]
    simp [List.getD_eq_getElem?_getD, List.getElem?_set_self (show j < ts.length by omega), List.getElem?_set_self (show j < bs.length by omega)]
  · rw [if_neg (fun q => e (pDir_inj hj hk q)), h j hj]
    simp [List.getD_eq_getElem?_getD, List.getElem?_set_ne (show k ≠ j by omega)]
theorem Tells.remove {n : Nat} {S S' : List RS} {ts : List ByteArray} {bs : List Bool} (h : Tells n S ts bs) (hin : ∀ k < 8, pDir k ∈ PATHS) (l2 : bs.length = 8) {k : Nat} (hk : k < 8) (hr : ∀ q ∈ PATHS, rdO (owF n) S' q = if q = pDir k then (⟨#[]⟩, 4) else rdO (owF n) S q) : Tells n S' ts (bs.set k false) := by
  intro j hj
  rw [hr _ (hin j hj)]
  by_cases e : j = k
  · subst e
    rw [if_pos rfl]
    simp [List.getD_eq_getElem?_getD, List.getElem?_set_self (show j < bs.length by omega)]
  · rw [if_neg (fun q => e (pDir_inj hj hk q)), h j hj]
    simp [List.getD_eq_getElem?_getD, List.getElem?_set_ne (show k ≠ j by omega)]
end Go.Proofs.YtaelaldmibgibaaGreat

namespace Go.Proofs.YtaelaldmibgibaaGreat
open Go.RowKit Go.Sim

structure L3 (w0 w3 : World) (nb m : Nat) (S : List RS) (r : Nat) (tb tc eb ec : Nat) (ts : List ByteArray) (es : List Int) (rv : Value) (l : List (ByteArray × Int)) : Prop where
  ne : Ne w0 w3 nb S []
  tr : w3.ownsRow 0 9 1 (.slice (some ⟨tb, 0, none⟩) 8 tc) 8 (svs ts)
  er : w3.ownsRow 0 24 1 (.slice (some ⟨eb, 0, none⟩) 8 ec) 8 (ivs es)
  lr : w3.ownsRow 0 66 3 rv m (chv r l)
  tl : ts.length = 8
  el : es.length = 8
  ml : l.length = m
theorem L3.text {w0 w3 V : World} {nb m : Nat} {S : List RS} {r tb tc eb ec : Nat} {ts : List ByteArray} {es : List Int} {rv : Value} {l : List (ByteArray × Int)} (h : L3 w0 w3 nb m S r tb tc eb ec ts es rv l) (hb : Below w3.heap.size w3 V) {k : Nat} (hk : k < 8) : V.cell? ⟨tb, k, none⟩ = some (.string (ts.getD k ⟨#[]⟩)) ∧ V.cell? ⟨eb, k, none⟩ = some (.int .i64 (es.getD k 0)) := by
  have h1 := ownsRow_keep h.tr (fun g e => hb.block g (World.ownsRow.lt h.tr g e).2)
  have h2 := ownsRow_keep h.er (fun g e => hb.block g (World.ownsRow.lt h.er g e).2)
  have l1 := h.tl
  have l2 := h.el
  refine ⟨?_, ?_⟩
  · rw [World.ownsRow.cellAt h1 k (by omega)]
    simp [svs, List.getElem?_eq_getElem (show k < ts.length by omega), List.getD_eq_getElem?_getD]
  · rw [World.ownsRow.cellAt h2 k (by omega)]
    simp [ivs, List.getElem?_eq_getElem (show k < es.length by omega), List.getD_eq_getElem?_getD]
theorem pDir_in (k : Nat) (hk : k < 8) : pDir k ∈ PATHS := by
  have := (⟨0, 0, 0, k, ⟨#[]⟩⟩ : StepO).P_in
  unfold StepO.P pickR at this
  rw [if_neg (by simp)] at this
  have e : ((k : Int) % 8).toNat = k := by omega
  rw [show (({ what := 0, r := 0, f := 0, path := (k : Int), text := ⟨#[]⟩ } : StepO).path) = (k : Int) from rfl, e] at this
  exact this
end Go.Proofs.YtaelaldmibgibaaGreat

namespace Go.Proofs.YtaelaldmibgibaaGreat
open Go.RowKit Go.Sim
open Classical

structure Sl (w0 w : World) (nb n tb bb : Nat) (B : Int) (S : List RS) (ts : List ByteArray) (bs : List Bool) : Prop where
  rn : Rn w0 w nb n B [tb, bb] S
  tk : w.heap[tb]? = some (.cells (ts.map Value.string).toArray 9)
  bk : w.heap[bb]? = some (.cells (bs.map Value.bool).toArray 4)
  tl : ts.length = 8
  bl : bs.length = 8
  ne : tb ≠ bb
  tg : w0.heap.size ≤ tb ∧ w0.heap.size ≤ bb
section
variable {w0 w w' : World} {nb n tb bb : Nat} {B : Int} {S S' : List RS} {ts ts' : List ByteArray} {bs bs' : List Bool}
theorem Sx.sl (h : Sx w0 w nb n tb bb B S ts bs) : Sl w0 w nb n tb bb B S ts bs := ⟨h.rn, h.tk, h.bk, h.tl, h.bl, h.ne, h.tg⟩
theorem Sl.sx (h : Sl w0 w nb n tb bb B S ts bs) (h1 : SpS n (owF n) S) (h2 : Tells n S ts bs) : Sx w0 w nb n tb bb B S ts bs := ⟨h.rn, h1, h.tk, h.bk, h.tl, h.bl, h.ne, h.tg, h2⟩
theorem Sl.cell (h : Sl w0 w nb n tb bb B S ts bs) {k : Nat} (hk : k < 8) : w.cell? ⟨tb, k, none⟩ = some (.string (ts.getD k ⟨#[]⟩)) ∧ w.cell? ⟨bb, k, none⟩ = some (.bool (bs.getD k false)) ∧ w.frozen? ⟨tb, k, none⟩ = false ∧ w.frozen? ⟨bb, k, none⟩ = false := by
  have l1 := h.tl
  have l2 := h.bl
  refine ⟨?_, ?_, by simp [World.frozen?, h.tk], by simp [World.frozen?, h.bk]⟩
  · simp [World.cell?, h.tk, List.getElem?_eq_getElem (show k < ts.length by omega), List.getD_eq_getElem?_getD]
  · simp [World.cell?, h.bk, List.getElem?_eq_getElem (show k < bs.length by omega), List.getD_eq_getElem?_getD]
theorem fixed_set {b : Nat} {cs' : Array Value} {t : TypeId} {p : Addr} {v : Value} (hx : Fixed w) (hp : p.block = b) (e : (w.setCell p v).heap[b]? = some (.cells cs' t)) : Fixed (w.setCell p v) := by
  intro k o ho
  by_cases hk : k = b
  · subst hk
    rw [e] at ho
    cases ho
    rfl
  · rw [Below.heap_setCell _ _ _ _ (by rw [hp]; exact hk)] at ho
    exact hx k o ho
theorem Sl.lt (h : Sl w0 w nb n tb bb B S ts bs) : tb < w.heap.size ∧ bb < w.heap.size :=
  ⟨(Array.getElem?_eq_some_iff.1 h.tk).1, (Array.getElem?_eq_some_iff.1 h.bk).1⟩
theorem Sl.setT (h : Sl w0 w nb n tb bb B S ts bs) (k : Nat) (t : ByteArray) : Sl w0 (w.setCell ⟨tb, k, none⟩ (.string t)) nb n tb bb B S (ts.set k t) bs := by
  have e := heap_setCell_same w tb k _ _ (.string t) h.tk
  have e' : (w.setCell ⟨tb, k, none⟩ (.string t)).heap[tb]? = some (.cells ((ts.set k t).map Value.string).toArray 9) := by
    rw [e]; simp [List.map_set]
  have hf : Fr (fun k => k ∈ [tb, bb]) w (w.setCell ⟨tb, k, none⟩ (.string t)) := Fr.setCell (S := fun j => j ∈ [tb, bb]) (p := ⟨tb, k, none⟩) (Fr.refl _ _) (.inl (by simp)) _
  have hl := h.lt
  refine ⟨⟨h.rn.ne.guest hf (fun k hk => ?_) (fixed_set h.rn.ne.fix rfl e') (fun k hk => ⟨.inl hk, ?_⟩), h.rn.len, h.rn.wf, h.rn.iv⟩, e', ?_, by simp [h.tl], h.bl, h.ne, h.tg⟩
  · have := h.tg
    simp at hk
    rcases hk with rfl | rfl <;> omega
  · have := hf.size
    simp at hk
    rcases hk with rfl | rfl <;> omega
  · rw [Below.heap_setCell _ _ _ _ (fun q => h.ne q.symm)]
    exact h.bk
theorem Sl.setB (h : Sl w0 w nb n tb bb B S ts bs) (k : Nat) (t : Bool) : Sl w0 (w.setCell ⟨bb, k, none⟩ (.bool t)) nb n tb bb B S ts (bs.set k t) := by
  have e := heap_setCell_same w bb k _ _ (.bool t) h.bk
  have e' : (w.setCell ⟨bb, k, none⟩ (.bool t)).heap[bb]? = some (.cells ((bs.set k t).map Value.bool).toArray 4) := by
    rw [e]; simp [List.map_set]
  have hf : Fr (fun k => k ∈ [tb, bb]) w (w.setCell ⟨bb, k, none⟩ (.bool t)) := Fr.setCell (S := fun j => j ∈ [tb, bb]) (p := ⟨bb, k, none⟩) (Fr.refl _ _) (.inl (by simp)) _
  have hl := h.lt
  refine ⟨⟨h.rn.ne.guest hf (fun k hk => ?_) (fixed_set h.rn.ne.fix rfl e') (fun k hk => ⟨.inl hk, ?_⟩), h.rn.len, h.rn.wf, h.rn.iv⟩, ?_, e', h.tl, by simp [h.bl], h.ne, h.tg⟩
  · have := h.tg
    simp at hk
    rcases hk with rfl | rfl <;> omega
  · have := hf.size
    simp at hk
    rcases hk with rfl | rfl <;> omega
  · rw [Below.heap_setCell _ _ _ _ h.ne]
    exact h.tk
theorem Ne.less {S : List RS} {K K' : List Nat} (h : Ne w0 w nb S K) (hK : ∀ k ∈ K', k ∈ K) : Ne w0 w nb S K' := by
  obtain ⟨pb, L, hN, h1, h2, h3⟩ := h.ex
  exact ⟨⟨pb, L, hN, h1, h2, fun k hk => h3 k (hK k hk)⟩, h.nge, h.bel, h.fix, h.kin⟩
theorem Ne.with {S : List RS} {K : List Nat} (h : Ne w0 w nb S K) (hb : Below w.heap.size w w') (hx : Fixed w') {sb : Nat} (hs : w.heap.size ≤ sb ∧ sb < w'.heap.size) : Ne w0 w' nb S (sb :: K) := by
  obtain ⟨h1, _⟩ := h.more hb hx
  obtain ⟨pb, L, hN, q1, q2, q3⟩ := h.ex
  have hlt : ∀ x ∈ L, x.1 < w.heap.size ∧ x.2 < w.heap.size := fun z hz => by
    obtain ⟨i, hi⟩ := List.getElem?_of_mem hz
    have hil : i < S.length := by have := (List.getElem?_eq_some_iff.1 hi).1; have := hN.len; omega
    have q := hN.rep i z _ hi (List.getElem?_eq_getElem hil)
    exact ⟨q.rep.lt, q.own.lt⟩
  refine ⟨⟨pb, L, ?_, q1, q2, fun k hk => ?_⟩, h1.nge, h1.bel, h1.fix, h1.kin⟩
  · refine ⟨?_, fun i x s hi hs => ?_, Nat.lt_of_lt_of_le hN.nlt hb.size, Nat.lt_of_lt_of_le hN.plt hb.size, hN.apart, hN.pbk.imp fun cur hc => (hb.block pb hN.plt).trans hc⟩
    · obtain ⟨cap, hc⟩ := hN.net.blk
      refine ⟨⟨cap, by rw [hb.block nb hN.nlt]; exact hc⟩, hN.net.len, fun r b hr => ?_, hN.net.n6⟩
      rw [World.cell?_of_block (w := w) (hb.block pb hN.plt)]
      exact hN.net.row r b hr
    · have q := hN.rep i x s hi hs
      exact q.keep (hb.block _ q.rep.lt) (hb.block _ q.own.lt)
  · have := hN.nlt
    have := hN.plt
    rcases List.mem_cons.1 hk with rfl | hk
    · exact ⟨hs.2, by omega, by omega, fun x hx => by have := hlt x hx; omega⟩
    · obtain ⟨a1, a2⟩ := q3 k hk
      exact ⟨Nat.lt_of_lt_of_le a1 hb.size, a2⟩
end
end Go.Proofs.YtaelaldmibgibaaGreat

namespace Go.Proofs.YtaelaldmibgibaaGreat
open Go.RowKit Go.Sim
open Classical

structure Sy (w0 w : World) (nb n tb bb : Nat) (B : Int) (S : List RS) (ts : List ByteArray) (bs : List Bool) (ts' : List ByteArray) (bs' : List Bool) : Prop where
  sl : Sl w0 w nb n tb bb B S ts bs
  sp : SpS n (owF n) S
  te : Tells n S ts' bs'
theorem told_no3 {B : Int} {S : List RS} {r f : Nat} (hW : Wf B S) (h0 : 0 ≤ B) (hr : r < S.length) (hf : f < S.length) (hk : Kin S) (h : ∀ p ∈ PATHS, (pullR (vw r (S.getD r rs0) p) (vw f (S.getD f rs0) p)).2 ≠ 3) : ∀ x ∈ pullL S r f, x.2 ≠ 3 := by
  intro x hx
  unfold pullL at hx
  have wx := hW.at (getD_at hr)
  have wy := hW.at (getD_at hf)
  rw [(pl_wf wx wy h0).2.2.1] at hx
  unfold allP at hx
  rw [told_fold, List.nil_append] at hx
  obtain ⟨l, hl, hx⟩ := List.mem_flatten.1 hx
  obtain ⟨p, hp, rfl⟩ := List.mem_map.1 hl
  unfold toldP at hx
  have hE : RisingK ((S.getD r rs0).E.map (·.1)) := by
    unfold RisingK
    rw [List.pairwise_map]
    exact wx.ris
  have hpp : p ∈ PATHS := by
    rcases ((union_spec _ _ hE).2 p).1 hp with q | q
    · obtain ⟨z, hz, e⟩ := List.mem_map.1 q
      rw [← e]; exact hk.at (getD_at hr) z hz
    · obtain ⟨z, hz, e⟩ := List.mem_map.1 q
      rw [← e]; exact hk.at (getD_at hf) z hz
  split at hx
  · simp at hx
  · rw [List.mem_singleton] at hx
    rw [hx]
    exact h p hpp
section
variable {w0 w V : World} {nb n tb bb : Nat} {B : Int} {S : List RS} {ts : List ByteArray} {bs : List Bool}
theorem sx_write (h : Sx w0 w nb n tb bb B S ts bs) (hn : 2 ≤ n) (h6 : n ≤ 6) (h0 : 0 ≤ B) (hB : B < 1000000000) (hb : Below w.heap.size w V) (hx : Fixed V) (hs : w.heap.size < V.heap.size) {k : Nat} (hk : k < 8) (t : ByteArray) :
    Calls (twin Tryz.prog pl) 10 #[.pointer (some ⟨nb, 0, none⟩), .int .i64 (k % n : Nat), .string (pDir k), .string (cutT t)] V fun e w' => e = .returned (.int .i64 0) ∧ ∃ S', Sy w0 w' nb n tb bb (B + 1) S' ts bs (ts.set k (cutT t)) (bs.set k true) ∧ ∀ o, w'.cell? ⟨w.heap.size, o, none⟩ = V.cell? ⟨w.heap.size, o, none⟩ := by
  have hl := h.rn.len
  have hlt : k % n < S.length := by rw [hl]; exact Nat.mod_lt _ (by omega)
  have hin := fun j (hj : j < 8) => pDir_in j hj
  have ho := owF_dir n k hk
  have hN := h.rn.ne.with hb hx (sb := w.heap.size) ⟨Nat.le_refl _, hs⟩
  have hw := h.sp.write h0 hB h.rn.wf (hin k hk) (cutT t)
  rw [ho] at hw
  have q := wr_wf (h.rn.wf.at (getD_at hlt)) (r := k % n) (by omega) h0 hB (hin k hk) (cutT t)
  refine (eWrite hN (k % n) (getD_at hlt) (pDir k) (cutT t) (hin k hk) (cutT_size _)).mono ?_
  rintro e w' ⟨rfl, h1, h2⟩
  rw [q.1]
  refine ⟨rfl, _, ⟨⟨⟨h1.less (fun j hj => List.mem_cons_of_mem _ hj), by rw [List.length_set]; exact hl, (h.rn.wf.mono (by omega)).set _ q.2, ivs_write (by omega) h.rn.iv h.rn.wf hlt _ _⟩, ?_, ?_, h.tl, h.bl, h.ne, h.tg⟩, hw.1, h.te.write hin h.tl h.bl hk _ hw.2⟩, fun o => World.cell?_of_block (h2 _ (List.mem_cons_self ..))⟩
  · rw [h2 tb (by simp), hb.block tb h.sl.lt.1]
    exact h.tk
  · rw [h2 bb (by simp), hb.block bb h.sl.lt.2]
    exact h.bk
theorem sx_remove (h : Sx w0 w nb n tb bb B S ts bs) (hn : 2 ≤ n) (h6 : n ≤ 6) (h0 : 0 ≤ B) (hB : B < 1000000000) {k : Nat} (hk : k < 8) :
    Calls (twin Tryz.prog pl) 21 #[.pointer (some ⟨nb, 0, none⟩), .int .i64 (k % n : Nat), .string (pDir k)] w fun e w' => ∃ z : Int, e = .returned (.int .i64 z) ∧ (z = 0 ↔ bs.getD k false = true) ∧ ∃ S', Sy w0 w' nb n tb bb (B + 1) S' ts bs ts (bs.set k false) := by
  have hl := h.rn.len
  have hlt : k % n < S.length := by rw [hl]; exact Nat.mod_lt _ (by omega)
  have hin := fun j (hj : j < 8) => pDir_in j hj
  have ho := owF_dir n k hk
  have hw := h.sp.remove h0 hB h.rn.wf (hin k hk)
  rw [ho] at hw
  have q := rm_wf (h.rn.wf.at (getD_at hlt)) (r := k % n) (by omega) h0 hB (hin k hk)
  refine (eRemove h.rn.ne (k % n) (getD_at hlt) (pDir k) (hin k hk)).mono ?_
  rintro e w' ⟨rfl, h1, h2⟩
  refine ⟨_, rfl, ?_, _, ⟨⟨⟨h1, by rw [List.length_set]; exact hl, (h.rn.wf.mono (by omega)).set _ q.2, ivs_remove (by omega) h.rn.iv h.rn.wf hlt _⟩, ?_, ?_, h.tl, h.bl, h.ne, h.tg⟩, hw.1, h.te.remove hin h.bl hk hw.2.1⟩⟩
  · rw [hw.2.2.1, h.te k hk]
    by_cases g : bs.getD k false = true
    · rw [if_pos g]
      exact ⟨fun _ => g, fun _ => rfl⟩
    · rw [if_neg g]
      exact ⟨fun q => absurd q (by decide), fun q => absurd q g⟩
  · rw [h2 tb (by simp)]
    exact h.tk
  · rw [h2 bb (by simp)]
    exact h.bk
theorem sx_pull (h : Sx w0 w nb n tb bb B S ts bs) (h6 : n ≤ 6) (h0 : 0 ≤ B) {r f : Nat} (hr : r < n) (hf : f < n) (hrf : r ≠ f) :
    Calls (twin Tryz.prog pl) 22 #[.pointer (some ⟨nb, 0, none⟩), .int .i64 r, .int .i64 f] w fun e w' => ∃ c1 m c3, e = .returned (.tuple #[.slice c1 m c3, .int .i64 0]) ∧ (∃ S', Sx w0 w' nb n tb bb B S' ts bs) ∧ Calls (twin Tryz.prog pl) 24 #[.slice c1 m c3] w' fun e w'' => e = .returned (.int .i64 0) ∧ w'' = w' := by
  have hl := h.rn.len
  have hx := getD_at (S := S) (r := r) (by omega)
  have hy := getD_at (S := S) (r := f) (by omega)
  have wx := h.rn.wf.at hx
  have wy := h.rn.wf.at hy
  obtain ⟨p1, p2, p3⟩ := h.sp.pull h0 h.rn.wf hr hf
  refine (ePull h.rn.ne r f hrf hx hy).mono ?_
  rintro e w' ⟨rv, rfl, h1, h2, h3⟩
  obtain ⟨c1, c3, rfl⟩ : ∃ c1 c3, rv = .slice c1 (pullL S r f).length c3 := by
    rcases h3.2 with ⟨e, q⟩ | ⟨g, cap, cur, e, _⟩
    · exact ⟨none, 0, by rw [e, show (pullL S r f).length = 0 from q]⟩
    · exact ⟨_, _, e⟩
  rw [(pl_wf wx wy h0).1]
  refine ⟨c1, _, c3, rfl, ⟨pullS S r f, h.turn ⟨h1, by rw [pullS_len]; exact hl, h.rn.wf.set _ (pl_wf wx wy h0).2.1, ivs_pull (by omega) h.rn.iv h0 h.rn.wf (by omega) (by omega)⟩ h2 p1 (fun k hk => (p2 _ (pDir_in k hk)).trans (h.te k hk))⟩, ?_⟩
  exact conf_zero h3 (by have := pull_len (r := r) (f := f) wx wy h0; unfold pullL; omega) (told_no3 h.rn.wf h0 (by omega) (by omega) h.rn.ne.kin p3)
end
end Go.Proofs.YtaelaldmibgibaaGreat

namespace Go.Proofs.YtaelaldmibgibaaGreat
open Go.RowKit Go.Sim
open Classical

structure Sz (w0 w : World) (nb n tb bb : Nat) (S : List RS) (ts : List ByteArray) (bs : List Bool) : Prop where
  sl : Sl w0 w nb n tb bb 200000 S ts bs
  rd : ∀ i < n, ∀ k < 8, rdR i (S.getD i rs0) (pDir k) = if bs.getD k false = true then (ts.getD k ⟨#[]⟩, 0) else (⟨#[]⟩, 4)
def e8 : List ByteArray := [⟨#[]⟩, ⟨#[]⟩, ⟨#[]⟩, ⟨#[]⟩, ⟨#[]⟩, ⟨#[]⟩, ⟨#[]⟩, ⟨#[]⟩]
def f8 : List Bool := [false, false, false, false, false, false, false, false]
section
variable {w0 w V : World} {nb n tb bb : Nat} {B : Int} {S : List RS} {ts : List ByteArray} {bs : List Bool}
theorem Sx.start (h : Ne w0 w nb (begS n) []) (hn : 2 ≤ n) (h6 : n ≤ 6) : Sx w0 ((w.alloc (.cells (e8.map Value.string).toArray 9)).alloc (.cells (f8.map Value.bool).toArray 4)) nb n w.heap.size (w.heap.size + 1) 1 (begS n) e8 f8 := by
  have s1 : (w.alloc (.cells (e8.map Value.string).toArray 9)).heap.size = w.heap.size + 1 := by simp
  have n1 := h.with ((Below.refl _ _).alloc (Nat.le_refl _) (.cells (e8.map Value.string).toArray 9)) (Fixed.alloc h.fix _ _) (sb := w.heap.size) ⟨Nat.le_refl _, by rw [s1]; omega⟩
  have n2 := n1.with ((Below.refl _ _).alloc (Nat.le_refl _) (.cells (f8.map Value.bool).toArray 4)) (Fixed.alloc n1.fix _ _) (sb := w.heap.size + 1) ⟨by rw [s1]; exact Nat.le_refl _, by simp⟩
  obtain ⟨q1, q2⟩ := sp_begS hn h6
  have hb := h.bel.size
  refine ⟨⟨n2.less (fun k hk => ?_), begS_len n, begS_wf n, begS_iv hn h6⟩, q1, ?_, ?_, rfl, rfl, by omega, ⟨hb, by omega⟩, fun k hk => ?_⟩
  · simp at hk ⊢
    omega
  · rw [heap_alloc_old _ _ (by rw [s1]; omega)]
    exact heap_alloc_new _ _
  · rw [← s1]
    exact heap_alloc_new _ _
  · rw [q2 k hk, if_neg]
    match k, hk with
    | 0, _ | 1, _ | 2, _ | 3, _ | 4, _ | 5, _ | 6, _ | 7, _ => decide
theorem sx_round (h : Sx w0 w nb n tb bb B S ts bs) (hn : 2 ≤ n) (h6 : n ≤ 6) (h0 : 0 ≤ B) (hB : B ≤ 200000) :
    Calls (twin Tryz.prog pl) 17 #[.pointer (some ⟨nb, 0, none⟩), .int .i64 n, .int .i64 1] w fun e w' => ∃ (sm : Nat) (S' : List RS), e = .returned (.tuple #[.int .i64 sm, .bool true]) ∧ Sz w0 w' nb n tb bb S' ts bs := by
  refine (round_gen h.rn hn h6 h0 (Pn n S) (Pn.zero h.sp) (fun S' r _ hp => hp.skip) (fun w1 S' r f hR hr hf _ hp => hp.step h0 hR.wf hr hf) (fun S' r _ hp => hp.next (by omega))).mono ?_
  rintro e w' ⟨sm, S', rfl, hR, hp⟩
  have hp' : Pn n S S' n 0 := hp
  exact ⟨sm, S', rfl, ⟨⟨hR.rn.ne, hR.rn.len, hR.rn.wf.mono hB, hR.rn.iv⟩, (hR.ks tb (by simp)).trans h.tk, (hR.ks bb (by simp)).trans h.bk, h.tl, h.bl, h.ne, h.tg⟩, fun i hi k hk => hp'.reads h.te hi hk (pDir_in k hk)⟩
theorem sz_read (h : Sz w0 w nb n tb bb S ts bs) {i k : Nat} (hi : i < n) (hk : k < 8) :
    Calls (twin Tryz.prog pl) 25 #[.pointer (some ⟨nb, 0, none⟩), .int .i64 i, .string (pDir k)] w fun e w' => (bs.getD k false = true ∧ e = .returned (.tuple #[.string (ts.getD k ⟨#[]⟩), .int .i64 0]) ∨ bs.getD k false = false ∧ e = .returned (.tuple #[.string ⟨#[]⟩, .int .i64 4])) ∧ Sz w0 w' nb n tb bb S ts bs := by
  have hl := h.sl.rn.len
  refine (eRead h.sl.rn.ne i (getD_at (S := S) (r := i) (by omega)) (pDir k) (pDir_in k hk)).mono ?_
  rintro e w' ⟨rfl, h1, h2⟩
  refine ⟨?_, ⟨⟨h1, hl, h.sl.rn.wf, h.sl.rn.iv⟩, (h2.block tb h.sl.lt.1).trans h.sl.tk, (h2.block bb h.sl.lt.2).trans h.sl.bk, h.sl.tl, h.sl.bl, h.sl.ne, h.sl.tg⟩, h.rd⟩
  rw [h.rd i hi k hk]
  by_cases g : bs.getD k false = true
  · rw [if_pos g]; exact .inl ⟨g, rfl⟩
  · rw [if_neg g]; exact .inr ⟨by simpa using g, rfl⟩
end
end Go.Proofs.YtaelaldmibgibaaGreat

namespace Go.Proofs.YtaelaldmibgibaaGreat
open Go.RowKit Go.Sim

theorem q_func5 : (twin Tryz.prog pl).funcs[5]? = some Tryz.f5 := tw_func Tryz.func5 (by decide) (by kernel_rfl)
theorem mk_strings (W : World) : (Instr.makeSlice 36 (.int .i64 8) (.int .i64 8)).run (twin Tryz.prog pl) W = .ok (.slice (some ⟨W.heap.size, 0, none⟩) 8 8) (W.alloc (.cells (e8.map Value.string).toArray 9)) := by kernel_rfl
theorem mk_bools (W : World) : (Instr.makeSlice 50 (.int .i64 8) (.int .i64 8)).run (twin Tryz.prog pl) W = .ok (.slice (some ⟨W.heap.size, 0, none⟩) 8 8) (W.alloc (.cells (f8.map Value.bool).toArray 4)) := by kernel_rfl
end Go.Proofs.YtaelaldmibgibaaGreat
