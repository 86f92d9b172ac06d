/- Packed: two nets in one memory; Unpack and Pack over the twi. -/
import Derived.Test.YtaelaldmibgibaaGreatDoorX49

set_option linter.all false
set_option maxHeartbeats 4000000
set_option maxRecDepth 100000

namespace Go.Proofs.K
open Go.RowKit Go.Sim
def blk (nb pb : Nat) (L : List (Nat × Nat)) : List Nat := nb :: pb :: (L.map (·.1) ++ L.map (·.2))
theorem Nt.keepAll {w w' : World} {nb pb : Nat} {L : List (Nat × Nat)} {S : List RS} (h : Nt w nb pb L S) (hk : ∀ k ∈ blk nb pb L, w'.heap[k]? = w.heap[k]?) : Nt w' nb pb L S := by
 have h1 := hk nb (by simp [blk])
 have h2 := hk pb (by simp [blk])
 obtain ⟨cap, hb⟩ := h.net.blk
 obtain ⟨cur, hc⟩ := h.pbk
 refine ⟨h.net.keep h1 h2, fun i x s hx hs => (h.rep i x s hx hs).keep (hk _ ?_) (hk _ ?_), ?_, ?_, h.apart, ⟨cur, h2.trans hc⟩⟩
 ·have := List.mem_of_getElem? hx
  simp only [blk, List.mem_cons, List.mem_append, List.mem_map]
  exact .inr (.inr (.inl ⟨x, this, rfl⟩))
 ·have := List.mem_of_getElem? hx
  simp only [blk, List.mem_cons, List.mem_append, List.mem_map]
  exact .inr (.inr (.inr ⟨x, this, rfl⟩))
 ·exact (Array.getElem?_eq_some_iff.1 (h1.trans hb)).1
 ·exact (Array.getElem?_eq_some_iff.1 (h2.trans hc)).1
theorem Nt.blt {w : World} {nb pb : Nat} {L : List (Nat × Nat)} {S : List RS} (h : Nt w nb pb L S) : ∀ k ∈ blk nb pb L, k < w.heap.size := by
 have at_ : ∀ x ∈ L, x.1 < w.heap.size ∧ x.2 < w.heap.size := fun x hx => by
  obtain ⟨i, hi, e⟩ := List.getElem_of_mem hx
  have hl : L[i]? = some x := by rw [List.getElem?_eq_getElem hi, e]
  have hs := List.getElem?_eq_getElem (l := S) (i := i) (by rw [← h.len]; exact hi)
  have hR := h.rep i x _ hl hs
  exact ⟨hR.rep.lt, hR.own.lt⟩
 intro k hk
 simp only [blk, List.mem_cons, List.mem_append, List.mem_map] at hk
 rcases hk with rfl | rfl | ⟨x, hx, rfl⟩ | ⟨x, hx, rfl⟩
 ·exact h.nlt
 ·exact h.plt
 ·exact (at_ x hx).1
 ·exact (at_ x hx).2
structure Tn (w0 w : World) (nb nc : Nat) (S T : List RS) : Prop where
 ex : ∃ pb L pc M, Nt w nb pb L S ∧ Nt w nc pc M T ∧ (∀ k ∈ blk nb pb L, w0.heap.size ≤ k ∧ k ∉ blk nc pc M) ∧ ∀ k ∈ blk nc pc M, w0.heap.size ≤ k
 bel : Below w0.heap.size w0 w
 fix : ybr w
 kin : Kin S
 kin' : Kin T
section
variable {w0 w w' : World} {nb nc : Nat} {S T : List RS}
theorem Tn.swap (h : Tn w0 w nb nc S T) : Tn w0 w nc nb T S := by
 obtain ⟨pb, L, pc, M, h1, h2, h3, h4⟩ := h.ex
 exact ⟨⟨pc, M, pb, L, h2, h1, fun k hk => ⟨h4 k hk, fun q => (h3 k q).2 hk⟩, fun k hk => (h3 k hk).1⟩, h.bel, h.fix, h.kin', h.kin⟩
theorem Tn.left (h : Tn w0 w nb nc S T) : ∃ K, Ne w0 w nb S K ∧ ∀ w' S', Ne w0 w' nb S' K → ydr K w w' → Tn w0 w' nb nc S' T := by
 obtain ⟨pb, L, pc, M, h1, h2, h3, h4⟩ := h.ex
 have ge : ∀ x ∈ L, w0.heap.size ≤ x.1 ∧ w0.heap.size ≤ x.2 := fun x hx => ⟨(h3 x.1 (by simp only [blk, List.mem_cons, List.mem_append, List.mem_map]; exact .inr (.inr (.inl ⟨x, hx, rfl⟩)))).1, (h3 x.2 (by simp only [blk, List.mem_cons, List.mem_append, List.mem_map]; exact .inr (.inr (.inr ⟨x, hx, rfl⟩)))).1⟩
 refine ⟨blk nc pc M, ⟨⟨pb, L, h1, (h3 pb (by simp [blk])).1, ge, fun k hk => ⟨h2.blt k hk, ?_, ?_, fun x hx => ⟨?_, ?_⟩⟩⟩, (h3 nb (by simp [blk])).1, h.bel, h.fix, h.kin⟩, fun w' S' hN hK => ?_⟩
 ·rintro rfl
  exact (h3 k (by simp [blk])).2 hk
 ·rintro rfl
  exact (h3 k (by simp [blk])).2 hk
 ·rintro rfl
  exact (h3 x.1 (by simp only [blk, List.mem_cons, List.mem_append, List.mem_map]; exact .inr (.inr (.inl ⟨x, hx, rfl⟩)))).2 hk
 ·rintro rfl
  exact (h3 x.2 (by simp only [blk, List.mem_cons, List.mem_append, List.mem_map]; exact .inr (.inr (.inr ⟨x, hx, rfl⟩)))).2 hk
 ·obtain ⟨pb', L', g1, g2, g3, g4⟩ := hN.ex
  refine ⟨⟨pb', L', pc, M, g1, h2.keepAll hK, fun k hk => ?_, h4⟩, hN.bel, hN.fix, hN.kin, h.kin'⟩
  simp only [blk, List.mem_cons, List.mem_append, List.mem_map] at hk
  rcases hk with rfl | rfl | ⟨x, hx, rfl⟩ | ⟨x, hx, rfl⟩
  ·exact ⟨hN.nge, fun q => (g4 _ q).2.1 rfl⟩
  ·exact ⟨g2, fun q => (g4 _ q).2.2.1 rfl⟩
  ·exact ⟨(g3 x hx).1, fun q => ((g4 _ q).2.2.2 x hx).1 rfl⟩
  ·exact ⟨(g3 x hx).2, fun q => ((g4 _ q).2.2.2 x hx).2 rfl⟩
theorem Tn.more (h : Tn w0 w nb nc S T) (hb : Below w.heap.size w w') (hx : ybr w') : Tn w0 w' nb nc S T := by
 obtain ⟨pb, L, pc, M, h1, h2, h3, h4⟩ := h.ex
 exact ⟨⟨pb, L, pc, M, h1.below hb, h2.below hb, h3, h4⟩, h.bel.trans (hb.mono h.bel.size), hx, h.kin, h.kin'⟩
end
theorem eUnpack {w : World} (hx : ybr w) (hg : yez w) (t : ByteArray) (ht : t.size ≤ 10000000) :
  Calls (twin Tryz.prog pl) 21 #[.string t] w fun e w' => UAnsV (yvy t) w w' e ∧ Below w.heap.size w w' ∧ ybr w' := by
 refine (shared.calls (by decide) hx (UnpackV_any t ht w hg) (fun e w' h => ?_)).mono ?_
 ·have := h.1
  unfold UAnsV at this
  split at this
  ·exact ⟨_, this⟩
  ·obtain ⟨_, _, _, _, e, _⟩ := this
   exact ⟨_, e⟩
 ·rintro e w' ⟨⟨h1, h2⟩, h3⟩
  exact ⟨h1, h2, h3⟩
theorem eUnpackOwn {w0 w : World} {nb : Nat} {S : List RS} (h : Ne w0 w nb S []) (hg : yez w0) {B : Int} (hV : VS S) (hW : Wf B S) (hB : B ≤ 1000000000) (h0 : 0 ≤ B) (h1 : 1 ≤ S.length) (h6 : S.length ≤ 6) :
  Calls (twin Tryz.prog pl) 21 #[.string (yaf (yga (yfe S)))] w fun e w' => ∃ nc, e = .returned (.tuple #[.pointer (some ⟨nc, 0, none⟩), .int .i64 0]) ∧ Tn w0 w' nb nc S (unS (yfe S)) := by
 have ho := yut hV hW hB h0 h1 h6
 have hr := yok hW
 have hs := yrv ho hr
 have hlast : (yfa (ydz (yfe S))).length ≤ 100 := by
  unfold yfa
  have h1 : sumL (ydz (yfe S)) < 1000003 := by unfold sumL; exact yme _ _
  have h2 := yda 10 (sumL (ydz (yfe S))) (Nat.lt_of_lt_of_le h1 (by decide))
  have h3 : (bs sumW).length = 4 := rfl
  simp only [List.length_append, List.length_cons, List.length_nil, h3]
  omega
 have hsz : (yaf (yga (yfe S))).size ≤ 10000000 := by
  rw [yal]
  unfold yga
  rw [List.length_append]
  have := ymo ho hr
  omega
 have hn : yvy (yaf (yga (yfe S))) = some (yfe S) := (netR_iff _ _).2 ⟨ho, yah _, good_of hV hW⟩
 have hsz0 := h.bel.size
 refine (eUnpack h.fix (hg.below h.bel) _ hsz).mono ?_
 rintro e w' ⟨hA, hb, hx⟩
 rw [hn] at hA
 obtain ⟨nc, pc, rbs, mbs, rfl, hN⟩ := hA
 refine ⟨nc, rfl, ?_⟩
 obtain ⟨pb, L, g1, g2, g3, _⟩ := h.ex
 have hT := hN.nt rfl (fun d hd => ho.oks d hd) (fun d hd => Nat.lt_of_le_of_lt (hr d hd) (by decide))
 have hm : ∀ k ∈ blk nc pc (rbs.zip mbs), w.heap.size ≤ k := fun k hk => by
  simp only [blk, List.mem_cons, List.mem_append, List.mem_map] at hk
  rcases hk with rfl | rfl | ⟨x, hx, rfl⟩ | ⟨x, hx, rfl⟩
  ·exact hN.gn
  ·exact hN.gp
  ·exact (hN.gr x.1 (List.mem_append.2 (.inl (List.of_mem_zip hx).1))).1
  ·exact (hN.gr x.2 (List.mem_append.2 (.inr (List.of_mem_zip hx).2))).1
 refine ⟨⟨pb, L, pc, rbs.zip mbs, g1.below hb, hT, fun k hk => ⟨?_, fun q => ?_⟩, fun k hk => Nat.le_trans hsz0 (hm k hk)⟩, h.bel.trans (hb.mono hsz0), hx, h.kin, fun s hs x hx => ?_⟩
 ·simp only [blk, List.mem_cons, List.mem_append, List.mem_map] at hk
  rcases hk with rfl | rfl | ⟨x, hx, rfl⟩ | ⟨x, hx, rfl⟩
  ·exact h.nge
  ·exact g2
  ·exact (g3 x hx).1
  ·exact (g3 x hx).2
 ·have := g1.blt k hk
  have := hm k q
  omega
 ·exact (unS_wf hV hW s hs).kin x hx
theorem tells_un {m : List DR} (ho : okNet m) (hg : goodN m) : Tells (unS m) m := by
 refine ⟨by simp [unS], fun i s d hs hd => ?_⟩
 unfold unS at hs
 rw [List.getElem?_map, hd] at hs
 simp only [Option.map_some, Option.some.injEq] at hs
 subst hs
 have hdm := List.mem_of_getElem? hd
 have hris : yav (toE d.recs) := by
  unfold yav toE
  rw [List.pairwise_map]
  exact (ho.oks d hdm).recs.rise
 refine ⟨rfl, ?_, fun y hy => ?_, fun y hy => ((hg.reps i d hd).recs y hy).1⟩
 ·show (toE d.recs).map (fun e : ByteArray × Rec => e.1) = d.recs.map (fun e : ByteArray × DS => e.1)
  unfold toE
  rw [List.map_map]
  rfl
 ·have hc := ((hg.reps i d hd).recs y hy).2
  unfold yfb at hc
  simp only [Bool.and_eq_true, decide_eq_true_eq] at hc
  show ybk i (lfn d.com) (ybh y.1 (toE d.recs)) = ybl y.2
  rw [ydj hris (p := y.1) (R := ybl y.2) (List.mem_map.2 ⟨y, hy, rfl⟩)]
  simp only [ybk]
  rw [ymg hc.1]
theorem ePackU {w w1 : World} (hx : ybr w1) (hg : yez w1) {nc pc : Nat} {rbs mbs : List Nat} {t : ByteArray} {m : List DR} (ht : t.size ≤ 1900000) (hm : yvy t = some m) (hN : NV w w1 nc pc m.length rbs mbs m) :
  Calls (twin Tryz.prog pl) 18 #[.pointer (some ⟨nc, 0, none⟩)] w1 fun e w' => e = .returned (.string t) ∧ Below w1.heap.size w1 w' ∧ ybr w' := by
 obtain ⟨ho, hbt, hgn⟩ := (netR_iff t m).1 hm
 have hpl : (yga m).length ≤ 1900000 := by rw [← hbt, yax]; exact ht
 have hbl : (ydz m).length ≤ 1900000 := by unfold yga at hpl; simp at hpl; omega
 have hrl : ∀ d ∈ m, d.recs.length < 1000000 := fun d hd => by
  have h1 : d.recs.length * 2 ≤ (ylj d.recs).length := by
   have : ∀ D : Drs, D.length * 2 ≤ (ylj D).length := fun D => by
    induction D with
    |nil => simp [ylj]
    |cons y D ih =>
     obtain ⟨p, x⟩ := y
     have e : ylj ((p, x) :: D) = bs p ++ (x.T ++ ylj D) := by simp [ylj]
     rw [e]
     unfold DS.T
     simp
     omega
   exact this d.recs
  have h2 : (ylj d.recs).length ≤ d.T.length := by unfold DR.T; simp; omega
  have h3 : d.T.length ≤ (yep m).length := by
   have : ∀ l : List DR, d ∈ l → d.T.length ≤ (yep l).length := fun l => by
    induction l with
    |nil => intro q; simp at q
    |cons z l ih =>
     intro q
     have e : yep (z :: l) = z.T ++ yep l := by simp [yep]
     rw [e, List.length_append]
     rcases List.mem_cons.1 q with rfl | q
     ·omega
     ·have := ih q; omega
   exact this m hd
  have h4 : (yep m).length ≤ (ydz m).length := by unfold ydz; simp; omega
  omega
 have e : yaf (yga m) = t := by rw [← hbt]; exact ygw (yah _)
 refine (shared.calls (by decide) hx (yxe m w1 (hN.nt rfl (fun d hd => ho.oks d hd) hrl) ho (tells_un ho hgn) (fun d hd => by have := hrl d hd; omega) (by omega) hg) (fun e w' h => ⟨_, h.1⟩)).mono ?_
 rintro e' w' ⟨⟨rfl, h2⟩, h3⟩
 rw [e]
 exact ⟨rfl, h2, h3⟩
end Go.Proofs.K

namespace Go.Proofs.K
open Go.RowKit Go.Sim
theorem ePack {w0 w : World} {nb : Nat} {S : List RS} {K : List Nat} (h : Ne w0 w nb S K) (hg : yez w0) {B : Int} (hV : VS S) (hW : Wf B S) (hB : B ≤ 1000000000) (h0 : 0 ≤ B) (h1 : 1 ≤ S.length) (h6 : S.length ≤ 6) :
  Calls (twin Tryz.prog pl) 18 #[.pointer (some ⟨nb, 0, none⟩)] w fun e w' => e = .returned (.string (yaf (yga (yfe S)))) ∧ Ne w0 w' nb S K ∧ ydr K w w' := by
 obtain ⟨pb, L, hN, _⟩ := h.ex
 have hr := yok hW
 have ho := yut hV hW hB h0 h1 h6
 refine (shared.calls (by decide) h.fix (yxe (yfe S) w hN ho (yoo hV hW) (fun d hd => by have := hr d hd; omega) (yrv ho hr) (hg.below h.bel)) (fun e w' h => ⟨_, h.1⟩)).mono ?_
 rintro e w' ⟨⟨rfl, hb⟩, hx⟩
 obtain ⟨q1, q2⟩ := h.more hb hx
 exact ⟨rfl, q1, q2⟩
@[simp] theorem q_callP (args : Array Value) (w : World) : (callFunc 18 args).run (twin Tryz.prog pl) w = .ok (.enter 18 args) w := ygb (by decide) args w
variable {k : Nat}
theorem sts_vs {S T : List RS} (h : Sts S T) (hV : VS S) : VS T := by
 have hc : CS S = CS T := by
  funext i
  unfold CS
  rw [(h.at_ i).cm]
 intro j hj
 rw [← h.len] at hj ⊢
 rw [← hc]
 have v := hV j hj
 have st := h.at_ j
 generalize S.getD j rs0 = x at *
 generalize T.getD j rs0 = y at *
 refine ⟨fun i => by rw [← st.cm]; exact v.cm0 i, fun i => by rw [← st.cm]; exact v.cmC i, by rw [← st.cm]; exact v.own, fun p => by rw [← st.view p]; exact v.vw p, fun p R hp => ?_⟩
 have e1 := nf_get j x.cm x.E p
 have e2 := nf_get j y.cm y.E p
 rw [st.eq, e2, hp] at e1
 cases hx : ybh p x.E with
 |none => rw [hx] at e1; cases e1
 |some R0 =>
  rw [hx] at e1
  simp only [Option.map_some, Option.some.injEq] at e1
  have k := v.kp p R0 hx
  simp only [ybk, Rec.mk.injEq] at e1
  obtain ⟨_, _, b, _, kn⟩ := e1
  rw [b, kn, ← st.cm]
  exact k
def ylu (s : ByteArray) : List Int := s.data.toList.map fun b => (b.toNat : Int)
def yny (s : ByteArray) (k : Nat) (e : Int) : ByteArray := strOfNums ((ylu s).set k e)
theorem ytd (s : ByteArray) (k : Nat) (e : Int) : (yny s k e).size = s.size := by
 unfold yny ylu
 rw [strOfNums_size, List.length_set, List.length_map, Array.length_toList]
 rfl
def ynh (w : World) (s : ByteArray) (k : Nat) (e : Int) : World := (Lib.bytesWorld w 5 s).setCell ⟨w.heap.size, k, none⟩ (.int .u8 e)
theorem yqn (w : World) (s : ByteArray) (k : Nat) (e : Int) : Below w.heap.size w (ynh w s k e) := by
 have h0 : Below w.heap.size w (Lib.bytesWorld w 5 s) := Lib.bytesWorld_below _ _ _
 have := Below.setCells h0 (Nat.le_refl w.heap.size) [.int .u8 e] k
 exact this
theorem turnW_cell (w : World) (s : ByteArray) (hk : k < s.size) (e : Int) {i : Nat} (hi : i < s.size) : (ynh w s k e).cell? ⟨w.heap.size, i, none⟩ = some (.int .u8 (((ylu s).set k e).getD i 0)) := by
 have hl : (ylu s).length = s.size := by unfold ylu; rw [List.length_map, Array.length_toList]; rfl
 have hc := Lib.bytesWorld_cell w 5 s
 unfold ynh
 by_cases q : i = k
 ·subst q
  rw [World.cell?_setCell_same _ _ _ (hc i hi)]
  rw [List.getD_eq_getElem?_getD, List.getElem?_set_self (by omega)]
  rfl
 ·have hi' : i < s.data.toList.length := by rw [Array.length_toList]; exact hi
  have e2 : ((ylu s).set k e).getD i 0 = ((s.data.toList.getD i 0).toNat : Int) := by
   rw [List.getD_eq_getElem?_getD, List.getElem?_set_ne (fun z => q z.symm)]
   unfold ylu
   rw [List.getElem?_map, List.getD_eq_getElem?_getD, List.getElem?_eq_getElem hi']
   rfl
  rw [World.cell?_setCell_other _ _ _ _ (by simp <;> omega), hc i hi, e2]
theorem yte (w : World) (s : ByteArray) (hk : k < s.size) (e : Int) (cap : Nat) {W : World} (hb : Below (ynh w s k e).heap.size (ynh w s k e) W) :
  (convert 53 9 (.slice (some ⟨w.heap.size, 0, none⟩) s.size cap)).run (twin Tryz.prog pl) W = .ok (.string (yny s k e)) W := by
 have hsz : w.heap.size < (ynh w s k e).heap.size := by
  have : (ynh w s k e).heap.size = w.heap.size + 1 := by
   unfold ynh
   simp only [World.setCell, Array.size_modify, Lib.bytesWorld_size]
  omega
 have hl : ((ylu s).set k e).length = s.size := by unfold ylu; rw [List.length_set, List.length_map, Array.length_toList]; rfl
 exact run_convert_bytes_arg W 53 5 ((ybx _).trans Tryz.underlying53) ((ybx _).trans Tryz.underlying5) w.heap.size 0 s.size cap _ hl (fun i hi => by
  rw [Nat.zero_add]
  exact (hb.cell (p := ⟨w.heap.size, i, none⟩) hsz).trans (turnW_cell w s hk e hi)) 9 ((ybx _).trans Tryz.underlying9)
theorem yqo {w : World} (hx : ybr w) (s : ByteArray) (k : Nat) (e : Int) : ybr (ynh w s k e) := by
 intro b o ho
 by_cases hb : b = w.heap.size
 ·subst hb
  unfold ynh at ho
  simp only [World.setCell, Array.getElem?_modify, if_true, Lib.bytesWorld_at_new, Option.map_some, Option.some.injEq] at ho
  subst ho
  rfl
 ·have h1 : (ynh w s k e).heap[b]? = (Lib.bytesWorld w 5 s).heap[b]? := by
   unfold ynh
   exact ybn (by simp only; exact hb)
  rw [h1] at ho
  have h2 := (Array.getElem?_eq_some_iff.1 ho).1
  rw [Lib.bytesWorld_size] at h2
  rw [Lib.bytesWorld_at_old _ _ _ _ (by omega)] at ho
  exact hx b o ho
theorem pack_pos (m : List DR) : 0 < (yaf (yga m)).size := by
 rw [yal]
 unfold yga ydz
 have : (bs yao).length = 8 := rfl
 simp only [List.length_append]
 omega
theorem q_funcP : (twin Tryz.prog pl).funcs[9]? = some Tryz.f9 := yim Tryz.func9 (by decide) (by kernel_rfl)
@[simp] theorem q_callU (args : Array Value) (w : World) : (callFunc 21 args).run (twin Tryz.prog pl) w = .ok (.enter 21 args) w := ygb (by decide) args w
end Go.Proofs.K

namespace Go.Proofs.K
open Go.RowKit Go.Sim
theorem pack_small {S : List RS} {B : Int} (hV : VS S) (hW : Wf B S) (hB : B ≤ 1000000000) (h0 : 0 ≤ B) (h1 : 1 ≤ S.length) (h6 : S.length ≤ 6) : (yaf (yga (yfe S))).size ≤ 1900000 := by
 have ho := yut hV hW hB h0 h1 h6
 have hlast : (yfa (ydz (yfe S))).length ≤ 100 := by
  unfold yfa
  have h1 : sumL (ydz (yfe S)) < 1000003 := by unfold sumL; exact yme _ _
  have h2 := yda 10 (sumL (ydz (yfe S))) (Nat.lt_of_lt_of_le h1 (by decide))
  have h3 : (bs sumW).length = 4 := rfl
  simp only [List.length_append, List.length_cons, List.length_nil, h3]
  omega
 rw [yal]
 unfold yga
 rw [List.length_append]
 have := ymo ho (yok hW)
 omega
theorem yrb (W : World) (s : ByteArray) {k : Nat} (hk : k < s.size) : (Lib.bytesWorld W 5 s).frozen? ⟨W.heap.size, k, none⟩ = false := by
 have hs : s.size ≤ (Lib.bytesCells W 5 s).size := by
  unfold Lib.bytesCells
  simp only [Array.size_append, Array.size_map]
  exact Nat.le_add_right _ _
 unfold World.frozen?
 simp only [Lib.bytesWorld_at_new]
 simp
 omega
structure U7 (w W w7 : World) (nc : Nat) (S T : List RS) (pk : ByteArray) (k : Nat) (xe : Int) (e : Ending) : Prop where
 ans : UAnsV (yvy (yny pk k xe)) (ynh W pk k xe) w7 e
 tn : Tn w w7 w.heap.size nc S T
 cv : ∀ cap V, Below w7.heap.size w7 V → (convert 53 9 (.slice (some ⟨W.heap.size, 0, none⟩) pk.size cap)).run (twin Tryz.prog pl) V = .ok (.string (yny pk k xe)) V
theorem packed_any (size at_ by_ : Int) (hz : inI size) (ht : inI at_) (a1 : Option Addr) (len1 cap1 : Nat) (hlen1 : len1 ≤ 4611686018427387904) (o1 : Nat → ych) (a2 : Option Addr) (len2 cap2 : Nat) (hlen2 : len2 ≤ 4611686018427387904) (o2 : Nat → ych) (w : World) (hx : ybr w) (hG : yez w) (hs1 : ∀ i, i < len1 → ∃ ad, a1 = some ad ∧ ygk w ad i (o1 i)) (hs2 : ∀ i, i < len2 → ∃ ad, a2 = some ad ∧ ygk w ad i (o2 i)) :
  Calls (twin Tryz.prog pl) 9 #[.int .i64 size, .slice a1 len1 cap1, .slice a2 len2 cap2, .int .i64 at_, .int .u8 by_] w fun e w' => e = .returned (.bool true) ∧ Below w.heap.size w w' := by
 have hc := yel size 4 (by decide)
 have PZ := yab (qpick size 4 hz (by decide))
 obtain ⟨n, hn⟩ : ∃ n : Nat, (2 : Int) + yfh size 4 = n := ⟨(2 + yfh size 4).toNat, by omega⟩
 have hn2 : 2 ≤ n := by omega
 have hn6 : n ≤ 6 := by omega
 generalize yfh size 4 = c at *
 have B0 := yab (begun_any n hn2 hn6 w hx)
 generalize hSS : yye n (begS n) o1 (min len1 100000) = S
 have PL : Hid (∀ V, Ne w V w.heap.size (begS n) [] → Calls (twin Tryz.prog pl) 15 #[.pointer (some ⟨w.heap.size, 0, none⟩), .int .i64 n, .slice a1 len1 cap1] V fun e w' => e = .returned (.bool true) ∧ Ne w w' w.heap.size S []) := fun V hV => by
  refine (yuy hV hn2 hn6 (yoc n) (B := 1) (by decide) (by decide) (begS_wf n) a1 len1 cap1 hlen1 o1 hs1).mono ?_
  rintro e w' ⟨rfl, h1, _⟩
  rw [hSS] at h1
  exact ⟨rfl, h1⟩
 have hSl : S.length = n := by rw [← hSS, yma, yoc]
 have hWS : Wf 200000 S := by
  rw [← hSS]
  exact (yqc hn2 hn6 (yoc n) (by decide) (begS_wf n) o1 _ (by omega)).mono (by omega)
 have hSV : VS S := by
  rw [← hSS]
  exact runS_vs hn2 hn6 (yoc n) (by decide) (begS_wf n) (begS_vs hn2 hn6) o1 _ (by omega)
 have PK1 : Hid (∀ V, Ne w V w.heap.size S [] → Calls (twin Tryz.prog pl) 18 #[.pointer (some ⟨w.heap.size, 0, none⟩)] V fun e w' => e = .returned (.string (yaf (yga (yfe S)))) ∧ Ne w w' w.heap.size S []) := fun V hV => by
  refine (ePack hV hG hSV hWS (by decide) (by decide) (by omega) (by omega)).mono ?_
  rintro e w' ⟨rfl, h1, _⟩
  exact ⟨rfl, h1⟩
 have UO : Hid (∀ V, Ne w V w.heap.size S [] → Calls (twin Tryz.prog pl) 21 #[.string (yaf (yga (yfe S)))] V fun e w' => ∃ nc, e = .returned (.tuple #[.pointer (some ⟨nc, 0, none⟩), .int .i64 0]) ∧ Tn w w' w.heap.size nc S (unS (yfe S))) := fun V hV => eUnpackOwn hV hG hSV hWS (by decide) (by decide) (by omega) (by omega)
 have hTW := unS_wf hSV hWS
 have hST := unS_sts hSV hWS
 have hTl : (unS (yfe S)).length = n := by rw [← hST.len]; exact hSl
 have hps := pack_small hSV hWS (by decide) (by decide) (by omega) (by omega)
 have hpp := pack_pos (yfe S)
 generalize unS (yfe S) = T at *
 generalize yaf (yga (yfe S)) = pk at *
 generalize hS1 : yye n S o2 (min len2 100000) = S1
 generalize hT1 : yye n T o2 (min len2 100000) = T1
 have hst1 : Sts S1 T1 := by rw [← hS1, ← hT1]; exact sts_run hST o2 _
 have hV1 : VS S1 := by
  rw [← hS1]
  exact runS_vs hn2 hn6 hSl (by decide) hWS hSV o2 _ (by omega)
 have hW1 : Wf 400000 S1 := by
  rw [← hS1]
  exact (yqc hn2 hn6 hSl (by decide) hWS o2 _ (by omega)).mono (by omega)
 have hW1' : Wf 400000 T1 := by
  rw [← hT1]
  exact (yqc hn2 hn6 hTl (by decide) hTW o2 _ (by omega)).mono (by omega)
 have hV1' := sts_vs hst1 hV1
 have hl1 : S1.length = n := by rw [← hS1, yma, hSl]
 have hl1' : T1.length = n := by rw [← hst1.len]; exact hl1
 have hnet := sts_net hst1
 have P1 : Hid (∀ V nc, Tn w V w.heap.size nc S T → Calls (twin Tryz.prog pl) 15 #[.pointer (some ⟨w.heap.size, 0, none⟩), .int .i64 n, .slice a2 len2 cap2] V fun e w' => e = .returned (.bool true) ∧ Tn w w' w.heap.size nc S1 T) := fun V nc hV => by
  obtain ⟨K, hK, hback⟩ := hV.left
  refine (yuy hK hn2 hn6 hSl (B := 200000) (by decide) (by decide) hWS a2 len2 cap2 hlen2 o2 hs2).mono ?_
  rintro e w' ⟨rfl, h1, h2⟩
  rw [hS1] at h1
  exact ⟨rfl, hback w' S1 h1 h2⟩
 have P2 : Hid (∀ V nc, Tn w V w.heap.size nc S1 T → Calls (twin Tryz.prog pl) 15 #[.pointer (some ⟨nc, 0, none⟩), .int .i64 n, .slice a2 len2 cap2] V fun e w' => e = .returned (.bool true) ∧ Tn w w' w.heap.size nc S1 T1) := fun V nc hV => by
  obtain ⟨K, hK, hback⟩ := hV.swap.left
  refine (yuy hK hn2 hn6 hTl (B := 200000) (by decide) (by decide) hTW a2 len2 cap2 hlen2 o2 hs2).mono ?_
  rintro e w' ⟨rfl, h1, h2⟩
  rw [hT1] at h1
  exact ⟨rfl, (hback w' T1 h1 h2).swap⟩
 have K1 : Hid (∀ V nc, Tn w V w.heap.size nc S1 T1 → Calls (twin Tryz.prog pl) 18 #[.pointer (some ⟨w.heap.size, 0, none⟩)] V fun e w' => e = .returned (.string (yaf (yga (yfe S1)))) ∧ Tn w w' w.heap.size nc S1 T1) := fun V nc hV => by
  obtain ⟨K, hK, hback⟩ := hV.left
  refine (ePack hK hG hV1 hW1 (by decide) (by decide) (by omega) (by omega)).mono ?_
  rintro e w' ⟨rfl, h1, h2⟩
  exact ⟨rfl, hback w' S1 h1 h2⟩
 have K2 : Hid (∀ V nc, Tn w V w.heap.size nc S1 T1 → Calls (twin Tryz.prog pl) 18 #[.pointer (some ⟨nc, 0, none⟩)] V fun e w' => e = .returned (.string (yaf (yga (yfe S1)))) ∧ Tn w w' w.heap.size nc S1 T1) := fun V nc hV => by
  obtain ⟨K, hK, hback⟩ := hV.swap.left
  refine (ePack hK hG hV1' hW1' (by decide) (by decide) (by omega) (by omega)).mono ?_
  rintro e w' ⟨rfl, h1, h2⟩
  rw [hnet]
  exact ⟨rfl, (hback w' T1 h1 h2).swap⟩
 generalize yaf (yga (yfe S1)) = pq at *
 have hk0 := yel at_ pk.size (by omega)
 have PQ := yab (qpick at_ pk.size ht ⟨by omega, by omega⟩)
 obtain ⟨k, hk⟩ : ∃ k : Nat, yfh at_ pk.size = k := ⟨(yfh at_ pk.size).toNat, by omega⟩
 rw [hk] at PQ hk0
 have hkl : k < pk.size := by omega
 have UT : Hid (∀ W nc e, Tn w W w.heap.size nc S T → Calls (twin Tryz.prog pl) 21 #[.string (yny pk k e)] ((Lib.bytesWorld W 5 pk).setCell ⟨W.heap.size, k, none⟩ (.int .u8 e)) fun e' w' => ∃ xe, U7 w W w' nc S T pk k xe e') := fun W nc e hT => by
  refine (eUnpack (yqo hT.fix pk k e) ((hG.below hT.bel).below (yqn W pk k e)) (yny pk k e) (by rw [ytd]; omega)).mono ?_
  rintro e' w' ⟨h1, h2, h3⟩
  exact ⟨e, h1, (hT.more (yqn W pk k e) (yqo hT.fix pk k e)).more h2 h3, fun cap V hb => yte W pk hkl e cap (h2.trans (hb.mono h2.size))⟩
 have PU : Hid (∀ (W1 V1 : World) nc nd pd rbs mbs m e, Tn w V1 w.heap.size nc S T → yvy (yny pk k e) = some m → NV W1 V1 nd pd m.length rbs mbs m → ∀ V, Below V1.heap.size V1 V → ybr V → Calls (twin Tryz.prog pl) 18 #[.pointer (some ⟨nd, 0, none⟩)] V fun e' w' => e' = .returned (.string (yny pk k e)) ∧ Tn w w' w.heap.size nc S T ∧ Below V1.heap.size V1 w') := fun W1 V1 nc nd pd rbs mbs m e hT hm hN V hb hx => by
  have hT2 := hT.more hb hx
  refine (ePackU hx (hG.below hT2.bel) (by rw [ytd]; omega) hm (hN.more hb)).mono ?_
  rintro e' w' ⟨rfl, h2, h3⟩
  exact ⟨rfl, hT2.more h2 h3, hb.trans (h2.mono hb.size)⟩
 have CV : ∀ W, (convert 9 53 (.string pk)).run (twin Tryz.prog pl) W = .ok (.slice (some ⟨W.heap.size, 0, none⟩) pk.size (grownCap W pk.size 0 5)) (Lib.bytesWorld W 5 pk) := fun W => Lib.run_convert_string_bytes W _ _ 5 pk ((ybx _).trans Tryz.underlying9) ((ybx _).trans Tryz.underlying53) ((ybx _).trans Tryz.underlying5)
 obtain ⟨v, hv⟩ : ∃ v : Int, v = ((pk.data.toList.getD k 0).toNat : Int) := ⟨_, rfl⟩
 have CK : ∀ W, (Lib.bytesWorld W 5 pk).cell? ⟨W.heap.size, k, none⟩ = some (.int .u8 v) := fun W => by rw [hv]; exact Lib.bytesWorld_cell W _ pk k hkl
 have CF : ∀ W, (Lib.bytesWorld W 5 pk).frozen? ⟨W.heap.size, k, none⟩ = false := fun W => yrb W pk hkl
 have TV : ∀ W e cap, (convert 53 9 (.slice (some ⟨W.heap.size, 0, none⟩) pk.size cap)).run (twin Tryz.prog pl) ((Lib.bytesWorld W 5 pk).setCell ⟨W.heap.size, k, none⟩ (.int .u8 e)) = .ok (.string (yny pk k e)) ((Lib.bytesWorld W 5 pk).setCell ⟨W.heap.size, k, none⟩ (.int .u8 e)) := fun W e cap => yte W pk hkl e cap (Below.refl _ _)
 have e0 : (pk.toList == []) = false := by
  rw [ByteArray.toList_eq]
  have : pk.data.toList.length ≠ 0 := by rw [Array.length_toList]; exact Nat.ne_of_gt hpp
  cases hq : pk.data.toList with
  |nil => rw [hq] at this; exact absurd rfl this
  |cons a l => rfl
 have pp : (pq.toList == pq.toList) = true := by simp
 clear hs1 hs2 hx hG hSV hWS hSS hTW hST hV1 hW1 hV1' hW1' hst1 hS1 hT1 hv hnet hps
 go_enter q_funcP, Tryz.ntmps9
 go_wp2_with (first
  |(go_at_call_of 13 (Value.int .i64 size); refine (PZ.out _).mono ?_; rintro e wz ⟨rfl, hwz⟩; obtain rfl := hwz.symm)
  |(go_at_call_of 13 (Value.int .i64 at_); refine (PQ.out _).mono ?_; rintro e wz ⟨rfl, hwz⟩; obtain rfl := hwz.symm)
  |(go_at_call 14; refine B0.out.mono ?_; rintro e w1 ⟨rfl, hN1⟩; have N1 := yab hN1; clear hN1)
  |(go_at_call 15; refine (PL.out _ N1.out).mono ?_; rintro e w2 ⟨rfl, hN2⟩; have N2 := yab hN2; clear hN2)
  |(go_at_call 18; refine (PK1.out _ N2.out).mono ?_; rintro e w3 ⟨rfl, h3⟩; have N3 := yab h3; clear h3)
  |(go_at_call_of 21 (Value.string pk); refine (UO.out _ N3.out).mono ?_; rintro e w4 ⟨nc, rfl, h4⟩; have N4 := yab h4; clear h4))
 go_at_call 21
 refine (UT.out _ _ _ N4.out).mono ?_
 rintro e w7 ⟨xe, h7⟩
 obtain ⟨ans, tn, cv⟩ := h7
 cases hn : yvy (yny pk k xe) with
 |none =>
  rw [hn] at ans
  obtain rfl := ans
  have T7 := yab tn
  clear tn cv hn B0 PL N1 N2 N3 PZ PQ PK1 UO UT PU
  go_wp2_with (first
   |(go_at_call 15; refine (P1.out _ _ T7.out).mono ?_; rintro e w8 ⟨rfl, h8⟩; have T8 := yab h8; clear h8 T7)
   |(go_at_call 15; refine (P2.out _ _ T8.out).mono ?_; rintro e w9 ⟨rfl, h9⟩; have T9 := yab h9; clear h9 T8)
   |(go_at_call 18; refine (K1.out _ _ T9.out).mono ?_; rintro e w10 ⟨rfl, h10⟩; have T10 := yab h10; clear h10 T9)
   |(go_at_call 18; refine (K2.out _ _ T10.out).mono ?_; rintro e w11 ⟨rfl, h11⟩; have T11 := yab h11; clear h11 T10))
  go_ret
  exact ⟨rfl, T11.out.bel⟩
 |some m =>
  rw [hn] at ans
  obtain ⟨nd, pd, rbs, mbs, rfl, hNV⟩ := ans
  have PV := yab (PU.out _ w7 nc nd pd rbs mbs m xe tn hn hNV)
  have CC := yab cv
  have F7 := yab tn.fix
  generalize yny pk k xe = tt at *
  have c7 : ∀ cap, _ := fun cap => cv cap w7 (Below.refl _ _)
  have c7' : ∀ cap, _ := fun cap => cv cap w7.drew ⟨rfl, rfl, rfl, Nat.le_refl _, fun _ _ => rfl⟩
  have q7 : (tt.toList == tt.toList) = true := by simp
  clear tn cv hn hNV B0 PL N1 N2 N3 PZ PQ PK1 UO UT PU
  go_wp2_with fail
  go_region_law (first
   |(go_simp; go_at_call 18; refine (PV.out w7.drew ⟨rfl, rfl, rfl, Nat.le_refl _, fun _ _ => rfl⟩ F7.out).mono ?_; rintro e w8 ⟨rfl, h8, hb8⟩; have T7 := yab h8; have c8 : ∀ cap, _ := (fun cap => CC.out cap w8 hb8); clear h8 hb8; dsimp only))
  all_goals
   go_wp2_with (first
    |(go_at_call 15; refine (P1.out _ _ T7.out).mono ?_; rintro e w8 ⟨rfl, h8⟩; have T8 := yab h8; clear h8 T7)
    |(go_at_call 15; refine (P2.out _ _ T8.out).mono ?_; rintro e w9 ⟨rfl, h9⟩; have T9 := yab h9; clear h9 T8)
    |(go_at_call 18; refine (K1.out _ _ T9.out).mono ?_; rintro e w10 ⟨rfl, h10⟩; have T10 := yab h10; clear h10 T9)
    |(go_at_call 18; refine (K2.out _ _ T10.out).mono ?_; rintro e w11 ⟨rfl, h11⟩; have T11 := yab h11; clear h11 T10))
   go_ret
   exact ⟨rfl, T11.out.bel⟩
end Go.Proofs.K
