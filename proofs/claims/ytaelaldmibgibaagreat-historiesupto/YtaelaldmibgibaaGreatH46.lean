/- The twin: a pull of all. Scripts of the statements that do not ask the document's answer: what a step does to the states (pure). A pull of all, path by path (pure): what it leaves, what it tells. What holds of all files of all replicas, whatever the script (pure): a version has its birth among its changes; one version, one text. Where all pull from all and nothing is told, all have the same files (pure). A round of pulls that tells nothing: what is known behind each pull (pure). -/
import Derived.Test.YtaelaldmibgibaaGreatH45
import Derived.Test.YtaelaldmibgibaaGreatH44
import Derived.Test.YtaelaldmibgibaaGreatH35

set_option linter.unusedVariables false
set_option linter.unusedSimpArgs false
set_option linter.unusedSectionVars false
set_option maxHeartbeats 1000000

namespace Go.Proofs.YtaelaldmibgibaaGreat
open Go.RowKit Go.Sim
def plR (s : Nat) (x : RS) (s' : Nat) (y : RS) : Int × RS × List (ByteArray × Int) :=
 if 20 < (yck (yhx s x.cm x.E s' y.cm y.E).1).length then (5, x, []) else (0, ⟨yad x.cm y.cm, (yhx s x.cm x.E s' y.cm y.E).1⟩, (yhx s x.cm x.E s' y.cm y.E).2)
theorem chv_one (s : Nat) (l : List (ByteArray × Int)) : ∀ u ∈ chv s l, u.oneCell' = true := by
 intro u hu
 unfold chv at hu
 obtain ⟨l', hl, hu⟩ := List.mem_flatten.1 hu
 obtain ⟨x, _, rfl⟩ := List.mem_map.1 hl
 simp at hu
 rcases hu with rfl | rfl | rfl <;> rfl
theorem yqd {l : List Nat} (h : l.Nodup) {a x : Nat} (hx : x ∉ l) : (l.set a x).Nodup := by
 apply nodup_of
 intro i j v hi hj
 rw [List.getElem?_set] at hi hj
 split at hi
 ·next e1 =>
  split at hj
  ·next e2 => omega
  ·split at hi
   ·cases hi
    exact absurd (List.mem_of_getElem? hj) hx
   ·cases hi
 ·split at hj
  ·split at hj
   ·cases hj
    exact absurd (List.mem_of_getElem? hi) hx
   ·cases hj
  ·rcases Nat.decEq i j with q | q
   ·exact absurd rfl (ymx h hi hj q)
   ·exact q
theorem ygz {S : List RS} {a : Nat} {x : RS} (h : S[a]? = some x) : S.set a x = S := by
 apply List.ext_getElem?
 intro i
 rw [List.getElem?_set]
 split
 ·next e =>
  subst e
  rw [if_pos (List.getElem?_eq_some_iff.1 h).1, h]
 ·rfl
theorem ydk {l : List Nat} {a x k : Nat} (h : k ∈ l.set a x) : k = x ∨ k ∈ l := by
 rcases List.mem_or_eq_of_mem_set h with q | q
 ·exact .inr q
 ·exact .inl q
theorem Nt.put {w : World} {nb pb : Nat} {L : List (Nat × Nat)} {S : List RS} (h : Nt w nb pb L S) {a : Nat} {u : Nat × Nat} (hu : L[a]? = some u) {B ab am : Nat} {s' : RS} (hr : Rg w ab a s'.cm am s'.E) (hab : ab ≠ am) (h1 : nb < B) (h2 : pb < B) (h3 : ∀ x ∈ L, x.1 < B ∧ x.2 < B) (h4 : B ≤ ab) (h5 : B ≤ am) :
  Nt (w.setCell ⟨pb, a, none⟩ (.pointer (some ⟨ab, 0, none⟩))) nb pb (L.set a (ab, am)) (S.set a s') := by
 have hf : Fr (fun k => k = pb) w (w.setCell ⟨pb, a, none⟩ (.pointer (some ⟨ab, 0, none⟩))) := (Fr.refl (fun k => k = pb) w).setCell (p := ⟨pb, a, none⟩) (.inl rfl) _
 have hap := h.apart
 have hnp : nb ≠ pb := by
  simp only [List.nodup_cons, List.mem_cons, not_or] at hap
  exact hap.1.1
 obtain ⟨cur, hcur⟩ := h.pbk
 have hal : a < L.length := (List.getElem?_eq_some_iff.1 hu).1
 refine ⟨?_, fun i x s hi hs => ?_, Nat.lt_of_lt_of_le h.nlt hf.size, Nat.lt_of_lt_of_le h.plt hf.size, ?_, ⟨_, heap_setCell_same _ _ _ _ _ _ hcur⟩⟩
 ·rw [List.length_set]
  obtain ⟨cap, hc⟩ := h.net.blk
  refine ⟨⟨cap, by rw [hf.block nb h.nlt hnp]; exact hc⟩, by rw [List.length_map, List.length_set]; have := h.net.len; simpa using this, fun r b hb => ?_, h.net.n6⟩
  rw [List.getElem?_map, List.getElem?_set] at hb
  have old : ∀ r b, (L.map (·.1))[r]? = some b → cur[r]? = some (Value.pointer (some ⟨b, 0, none⟩)) := fun r b hb => by
   have := h.net.row r b hb
   simpa [World.cell?, hcur] using this
  have hsz : a < cur.size := by
   have := old a u.1 (by rw [List.getElem?_map, hu]; rfl)
   exact (Array.getElem?_eq_some_iff.1 this).1
  simp only [World.cell?, heap_setCell_same _ _ _ _ _ _ hcur]
  split at hb
  ·next e =>
   subst e
   simp at hb
   subst hb
   simp [hsz]
  ·next e =>
   have := old r b (by rw [List.getElem?_map]; exact hb)
   simp only [Array.getElem?_setIfInBounds_ne e]
   exact this
 ·by_cases e : a = i
  ·subst e
   rw [List.getElem?_set_self hal] at hi
   cases hi
   have hsl : a < S.length := by have := h.len; omega
   rw [List.getElem?_set_self hsl] at hs
   cases hs
   exact hr.keep (hf.block _ hr.rep.lt (fun e => by have : ab = pb := e; omega)) (hf.block _ hr.own.lt (fun e => by have : am = pb := e; omega))
  ·rw [List.getElem?_set_ne e] at hi hs
   have q := h.rep i x s hi hs
   obtain ⟨n1, n2, n3, n4⟩ := h.ne hi
   exact q.keep (hf.block _ q.rep.lt (fun e => n3 e.symm)) (hf.block _ q.own.lt (fun e => n4 e.symm))
 ·have hb1 : ∀ k ∈ L.map (·.1), k < B := fun k hk => by obtain ⟨x, hx, rfl⟩ := List.mem_map.1 hk; exact (h3 x hx).1
  have hb2 : ∀ k ∈ L.map (·.2), k < B := fun k hk => by obtain ⟨x, hx, rfl⟩ := List.mem_map.1 hk; exact (h3 x hx).2
  rw [List.map_set, List.map_set]
  simp only [List.nodup_cons, List.nodup_append, List.mem_cons, List.mem_append, not_or] at hap ⊢
  obtain ⟨⟨a1, a2, a3⟩, ⟨a4, a5⟩, a6, a7, a8⟩ := hap
  refine ⟨⟨a1, fun q => ?_, fun q => ?_⟩, ⟨fun q => ?_, fun q => ?_⟩, yqd a6 (fun q => by have := hb1 _ q; omega), yqd a7 (fun q => by have := hb2 _ q; omega), fun k hk j hj e => ?_⟩
  ·rcases ydk q with e | e
   ·omega
   ·exact a2 e
  ·rcases ydk q with e | e
   ·omega
   ·exact a3 e
  ·rcases ydk q with e | e
   ·omega
   ·exact a4 e
  ·rcases ydk q with e | e
   ·omega
   ·exact a5 e
  ·subst e
   rcases ydk hk with e1 | e1
   ·rcases ydk hj with e2 | e2
    ·omega
    ·have := hb2 _ e2; omega
   ·rcases ydk hj with e2 | e2
    ·have := hb1 _ e1; omega
    ·exact a8 k e1 k e2 rfl
theorem ynu (V : World) (nb : Nat) (a b : Int) : Below V.heap.size V (yes V nb a b) := by
 unfold yes
 refine Below.alloc (Below.alloc (Below.alloc (Below.alloc (Below.alloc (Below.alloc (Below.alloc (Below.alloc (Below.refl _ _) ?_ _) ?_ _) ?_ _) ?_ _) ?_ _) ?_ _) ?_ _) ?_ _ <;> simp <;> omega
theorem aw_size (V : World) (nb : Nat) (a b : Int) : (yes V nb a b).heap.size = V.heap.size + 8 := by simp [yes]
theorem aw_fixed {V : World} (h : ybf V) (nb : Nat) (a b : Int) : ybf (yes V nb a b) :=
 ybf.alloc (ybf.alloc (ybf.alloc (ybf.alloc (ybf.alloc (ybf.alloc (ybf.alloc (ybf.alloc h _ _) _ _) _ _) _ _) _ _) _ _) _ _) _ _
theorem aw_at (V : World) (nb : Nat) (a b : Int) (k : Nat) : (yes V nb a b).heap[V.heap.size + k]? = (#[Obj.cells #[.pointer (some ⟨nb, 0, none⟩)] 23, .cells #[.pointer none, .slice none 0 0, .int .i64 0] 137, .cells #[.slice (some ⟨V.heap.size + 1, 0, none⟩) 1 1] 134, .cells #[] 160, .cells #[.int .i64 0] 3, .cells #[.int .i64 a, .int .i64 b] 100, .cells #[] 172, .cells #[] 1])[k]? := by
 have e : (yes V nb a b).heap = V.heap ++ #[Obj.cells #[.pointer (some ⟨nb, 0, none⟩)] 23, .cells #[.pointer none, .slice none 0 0, .int .i64 0] 137, .cells #[.slice (some ⟨V.heap.size + 1, 0, none⟩) 1 1] 134, .cells #[] 160, .cells #[.int .i64 0] 3, .cells #[.int .i64 a, .int .i64 b] 100, .cells #[] 172, .cells #[] 1] := by
  unfold yes World.alloc
  apply Array.toList_inj.1
  simp only [Array.toList_push, Array.toList_append, List.append_assoc, List.cons_append, List.nil_append]
 rw [e, Array.getElem?_append_right (by omega), Nat.add_sub_cancel_left]
theorem yit (V : World) (nb : Nat) (a b : Int) (k : Nat) {cs : Array Value} {ty : TypeId} (h : (#[Obj.cells #[.pointer (some ⟨nb, 0, none⟩)] 23, .cells #[.pointer none, .slice none 0 0, .int .i64 0] 137, .cells #[.slice (some ⟨V.heap.size + 1, 0, none⟩) 1 1] 134, .cells #[] 160, .cells #[.int .i64 0] 3, .cells #[.int .i64 a, .int .i64 b] 100, .cells #[] 172, .cells #[] 1] : Array Obj)[k]? = some (.cells cs ty)) (o : Nat) : (yes V nb a b).cell? ⟨V.heap.size + k, o, none⟩ = cs[o]? := by
 simp [World.cell?, aw_at, h]
def P3s (W0 : World) (nb a b : Nat) (cm : Nat → Int) (A : yav × List (ByteArray × Int)) (gb : Nat) (V' : World) : Prop :=
 ∃ V, Below W0.heap.size W0 V ∧ gb = V.heap.size + 1 ∧ PullLeft (yes V nb a b) V' gb a cm A ∧ Fr (fun k => k = gb) (yes V nb a b) V'
theorem P3s.below {W0 : World} {nb a b : Nat} {cm : Nat → Int} {A : yav × List (ByteArray × Int)} {gb : Nat} {V' : World} (h : P3s W0 nb a b cm A gb V') : Below W0.heap.size W0 V' := by
 obtain ⟨V, h1, rfl, _, hf⟩ := h
 have h2 := h1.trans ((ynu V nb a b).mono h1.size)
 have hs := h1.size
 exact ⟨hf.os.trans h2.os, hf.tape.trans h2.tape, hf.output.trans h2.output, Nat.le_trans h2.size hf.size, fun k hk => (hf.block k (by have := h2.size; omega) (by omega)).trans (h2.block k hk)⟩
theorem P3s.size {W0 : World} {nb a b : Nat} {cm : Nat → Int} {A : yav × List (ByteArray × Int)} {gb : Nat} {V' : World} (h : P3s W0 nb a b cm A gb V') : W0.heap.size ≤ V'.heap.size := h.below.size
theorem npulls {nb pb : Nat} {L : List (Nat × Nat)} {S : List RS} {w : World} (h : Nt w nb pb L S) (hF : ybf w) (a b : Nat) (hab : a ≠ b) {u v : Nat × Nat} {x y : RS} (hu : L[a]? = some u) (hv : L[b]? = some v) (hx : S[a]? = some x) (hy : S[b]? = some y)
  (hl : x.E.length + y.E.length < 900000) (hk : ∀ e ∈ x.E, e.1.size ≤ 1000000) (hk' : ∀ e ∈ y.E, e.1.size ≤ 1000000) :
  Calls (twin Tryz.prog pl) 22 #[.pointer (some ⟨nb, 0, none⟩), .int .i64 a, .int .i64 b] w fun e w' => ∃ rv r2, e = .returned (.tuple #[rv, r2]) ∧ r2 = .int .i64 (plR a x b y).1 ∧ ∃ L', Nt w' nb pb L' (S.set a (plR a x b y).2.1) ∧ w'.ownsRow w.heap.size 66 3 rv (plR a x b y).2.2.length (chv a (plR a x b y).2.2) ∧ Fr (fun k => k = pb) w w' ∧ ∀ x ∈ L', x ∈ L ∨ (w.heap.size ≤ x.1 ∧ w.heap.size ≤ x.2) := by
 refine qpull nb a b w _ ?_
 have hal : a < S.length := (List.getElem?_eq_some_iff.1 hx).1
 have hbl : b < S.length := (List.getElem?_eq_some_iff.1 hy).1
 have n6 := h.net.n6
 have hok : okP S.length a b = true := by
  unfold okP
  simp only [Bool.and_eq_true, decide_eq_true_eq, Bool.not_eq_true', beq_eq_false_iff_ne]
  omega
 generalize hW : w.alloc (.cells #[.int .i64 (a : Int), .int .i64 (b : Int)] 100) = W0
 have bW : Below w.heap.size w W0 := by rw [← hW]; exact (Below.refl _ _).alloc (Nat.le_refl _) _
 have fW : ybf W0 := by rw [← hW]; exact ybf.alloc hF _ _
 have sW : W0.heap.size = w.heap.size + 1 := by rw [← hW]; simp
 have g0 : W0.cell? ⟨w.heap.size, 0, none⟩ = some (.int .i64 a) := by rw [← hW]; simp only [World.cell?, heap_alloc_new]; rfl
 have g1 : W0.cell? ⟨w.heap.size, 1, none⟩ = some (.int .i64 b) := by rw [← hW]; simp only [World.cell?, heap_alloc_new]; rfl
 clear hW
 have cellW : ∀ V, Below W0.heap.size W0 V → V.cell? ⟨w.heap.size, 0, none⟩ = some (.int .i64 a) ∧ V.cell? ⟨w.heap.size, 1, none⟩ = some (.int .i64 b) := fun V hV => ⟨(hV.cell (p := ⟨w.heap.size, 0, none⟩) (by simp only; omega)).trans g0, (hV.cell (p := ⟨w.heap.size, 1, none⟩) (by simp only; omega)).trans g1⟩
 have belW : ∀ V, Below W0.heap.size W0 V → Below w.heap.size w V := fun V hV => bW.trans (hV.mono bW.size)
 have h1 : Calls (twin Tryz.prog pl) 62 #[.pointer (some ⟨nb, 0, none⟩), .slice (some ⟨w.heap.size, 0, none⟩) 1 1] W0 fun e w' => e = .returned (.bool true) ∧ (Below W0.heap.size W0 w' ∧ ybf w') := by
  have hN := h.below bW
  refine (shared.calls (by decide) fW (yer nb S.length pb (L.map (·.1)) w.heap.size 1 a b W0 hN.net hN.nlt hN.plt (by omega) g0 g1) (fun e w' h => ⟨_, h.1⟩)).mono ?_
  rintro e w' ⟨⟨rfl, hb⟩, hf⟩
  rw [hok]
  exact ⟨rfl, hb, hf⟩
 have h2 : ∀ V, (Below W0.heap.size W0 V ∧ ybf V) → Calls (twin Tryz.prog pl) 63 #[.slice (some ⟨w.heap.size, 0, none⟩) 1 1] V fun e w' => e = .returned (.bool true) ∧ (Below W0.heap.size W0 w' ∧ ybf w') := by
  rintro V ⟨hb, hf⟩
  refine (shared.calls (by decide) hf (ypi w.heap.size 1 a b (by omega) (by omega) V (by have := hb.size; omega) (cellW V hb).1 (cellW V hb).2) (fun e w' h => ⟨_, h.1⟩)).mono ?_
  rintro e w' ⟨⟨rfl, hb'⟩, hf'⟩
  exact ⟨rfl, hb.trans (hb'.mono hb.size), hf'⟩
 have h3 : ∀ V, (Below W0.heap.size W0 V ∧ ybf V) → Calls (twin Tryz.prog pl) 64 #[.pointer (some ⟨nb, 0, none⟩), .slice (some ⟨w.heap.size, 0, none⟩) 1 1] V fun e w' => ∃ gb, e = .returned (.slice (some ⟨gb, 0, none⟩) 1 1) ∧ P3s W0 nb a b (yad x.cm y.cm) (yhx a x.cm x.E b y.cm y.E) gb w' := by
  rintro V ⟨hb, hf⟩
  have hN := (h.below (belW V hb)).below (ynu V nb a b)
  refine (qpulls_one nb w.heap.size 1 a b V (cellW V hb).1 (cellW V hb).2 (by have := hb.size; omega) (fun w' => P3s W0 nb a b (yad x.cm y.cm) (yhx a x.cm x.E b y.cm y.E) (V.heap.size + 1) w') ?_).mono (fun e w' h => ⟨_, h.1, h.2⟩)
  refine (shared.calls (by decide) (aw_fixed hf nb a b) (work_any V.heap.size (V.heap.size + 5) (V.heap.size + 2) (V.heap.size + 4) (V.heap.size + 1) hN a b hu hv hx hy hl hk hk' (yit V nb a b 0 rfl 0) (yit V nb a b 5 rfl 0) (yit V nb a b 5 rfl 1) (yit V nb a b 2 rfl 0) (yit V nb a b 4 rfl 0) (aw_at V nb a b 1)) (fun e w' h => ⟨_, h.1⟩)).mono ?_
  rintro e w' ⟨⟨rfl, hp, hfr⟩, _⟩
  refine ⟨rfl, ?_, V, hb, rfl, hp, hfr⟩
  rw [World.cell?_of_block (w := yes V nb a b) (hfr.block (V.heap.size + 2) (by rw [aw_size]; omega) (by omega))]
  exact yit V nb a b 2 rfl 0
 by_cases hfull : 20 < (yck (yhx a x.cm x.E b y.cm y.E).1).length
 ·have ep : plR a x b y = (5, x, []) := by unfold plR; rw [if_pos hfull]
  rw [ep]
  refine (ysv nb w.heap.size 1 W0 h1 h2 h3 (fun gb V hP => ?_)).mono ?_
  ·obtain ⟨V0, _, _, hp | hp, _⟩ := hP
   ·exact hp.2
   ·omega
  ·rintro e w' ⟨rfl, gb, V, hP, hb⟩
   have hb' := hP.below
   have hbw := belW w' (hb'.trans (hb.mono hb'.size))
   refine ⟨_, _, rfl, rfl, L, ?_, World.ownsRow_nil _ _ _ _, Fr.of_below hbw, fun x hx => .inl hx⟩
   rw [ygz hx]
   exact h.below hbw
 ·have ep : plR a x b y = (0, ⟨yad x.cm y.cm, (yhx a x.cm x.E b y.cm y.E).1⟩, (yhx a x.cm x.E b y.cm y.E).2) := by unfold plR; rw [if_neg hfull]
  rw [ep]
  obtain ⟨cap, hc⟩ := h.net.blk
  obtain ⟨cur, hcur⟩ := h.pbk
  have hm : (yhx a x.cm x.E b y.cm y.E).2.length ≤ 1000000 := by
   have q1 := (accP_len a x.cm x.E b y.cm y.E (yci (x.E.map (·.1)) (y.E.map (·.1))) ([], [])).2
   have q2 := yrf (y.E.map (·.1)) (x.E.map (·.1))
   rw [List.length_map, List.length_map] at q2
   show ((yci (x.E.map (·.1)) (y.E.map (·.1))).foldl (yfx a x.cm x.E b y.cm y.E) ([], [])).2.length ≤ _
   simp only [List.length_nil] at q1
   omega
  have hLB : ∀ x ∈ L, x.1 < w.heap.size ∧ x.2 < w.heap.size := fun z hz => by
   obtain ⟨i, hi⟩ := List.getElem?_of_mem hz
   have hil : i < S.length := by have := (List.getElem?_eq_some_iff.1 hi).1; have := h.len; omega
   have q := h.rep i z _ hi (List.getElem?_eq_getElem hil)
   exact ⟨q.rep.lt, q.own.lt⟩
  refine (qround_ok nb w.heap.size 1 W0 a pb S.length cap (yhx a x.cm x.E b y.cm y.E).2.length (chv a (yhx a x.cm x.E b y.cm y.E).2) n6 hal h1 h2 h3 (fun gb V hP => ?_)).mono ?_
  ·have hbV := belW V hP.below
   have hcl := (cellW V hP.below).1
   have hsz := hP.size
   obtain ⟨V0, hV0, rfl, hp | ⟨hle, ab, am, z, cv, q1, q2, q3, q4, q5, q6, q7, q8, q9⟩, hfr⟩ := hP
   ·omega
   ·refine ⟨ab, z, cv, q1, q3, chv_one _ _, hm, fun e => q9 (List.length_eq_zero_iff.1 e), ?_, hcl, ⟨_, (h.below hbV).net.row a u.1 (by rw [List.getElem?_map, hu]; rfl)⟩, ?_, Nat.lt_of_lt_of_le h.nlt hbV.size, Nat.lt_of_lt_of_le h.plt hbV.size, by omega⟩
    ·rw [hbV.cell (p := ⟨nb, 0, none⟩) h.nlt]
     simp [World.cell?, hc]
    ·simp [World.frozen?, hbV.block pb h.plt, hcur]
  ·rintro e w' ⟨gb, V, V', ab, z, cv, rv, rfl, hP, hg, hown, hB, hR, rfl⟩
   have hbV := hP.below
   have hbV' := belW V' (hbV.trans (hB.mono hbV.size))
   have hsz := hP.size
   obtain ⟨V0, hV0, rfl, hp | ⟨hle, ab', am, z', cv', q1, q2, q3, q4, q5, q6, q7, q8, q9⟩, hfr⟩ := hP
   ·omega
   ·rw [hg] at q1
    simp only [Option.some.injEq, Obj.cells.injEq, Array.mk.injEq, List.cons.injEq, Value.pointer.injEq, Addr.mk.injEq, and_true] at q1
    obtain ⟨rfl, rfl⟩ := q1
    have ga := (ynu V0 nb a b).size
    have g0 := hV0.size
    have hN := h.below hbV'
    have hput := hN.put hu (s' := ⟨yad x.cm y.cm, (yhx a x.cm x.E b y.cm y.E).1⟩) (q2.below hB) q6 h.nlt h.plt hLB (B := w.heap.size) (by omega) (by omega)
    have hfp : Fr (fun k => k = pb) V' (V'.setCell ⟨pb, a, none⟩ (.pointer (some ⟨ab, 0, none⟩))) := (Fr.refl (fun k => k = pb) V').setCell (p := ⟨pb, a, none⟩) (.inl rfl) _
    refine ⟨_, _, rfl, rfl, _, hput, ?_, (Fr.of_below hbV').trans hfp, fun x hx => ?_⟩
    ·have hpl := h.plt
     refine yaq (yae hR (fun k e => hfp.block k (World.ownsRow.lt hR k e).2 (by have := (World.ownsRow.lt hR k e).1; omega))) (fun k e => by have := (World.ownsRow.lt hR k e).1; omega)
    ·rcases List.mem_or_eq_of_mem_set hx with q | rfl
     ·exact .inl q
     ·exact .inr ⟨by simp only; omega, by simp only; omega⟩
theorem yea (a b : Nat → Int) (i : Nat) : 0 ≤ yad a b i ∧ a i ≤ yad a b i ∧ b i ≤ yad a b i := by
 unfold yad g1 zer
 (repeat' split) <;> omega
theorem ybk {a b : Nat → Int} {i : Nat} (h : 0 ≤ a i) : yad a b i = max (a i) (b i) := by
 unfold yad g1 zer
 (repeat' split) <;> omega
theorem tf_eq (r : Nat) (x : Int) (i : Nat) (hr : r < 6) : tf r x i = if i = r then x else 0 := by
 unfold tf one
 match r, hr with
 |0, _ | 1, _ | 2, _ | 3, _ | 4, _ | 5, _ =>
  rcases i with _ | _ | _ | _ | _ | _ | i <;> simp
theorem nxG_lo (s : Nat) (cm : Nat → Int) (i : Nat) : 0 ≤ nxG s cm i := (yea _ _ _).1
theorem ysy {s : Nat} {cm : Nat → Int} {E : yav} {s' : Nat} {cm' : Nat → Int} {E' : yav} (U : List ByteArray) : ∀ A : yav × List (ByteArray × Int), yay A.1 → yay (U.foldl (yfx s cm E s' cm' E') A).1 := by
 induction U with
 |nil => intro A h; exact h
 |cons p U ih => intro A h; exact ih _ (ybx _ _ _ _ h)
structure yko where
 what : Int
 r : Int
 f : Int
 path : Int
 text : ByteArray
def yko.R (o : yko) (n : Nat) : Nat := (pickR o.r n).toNat
def yko.F (o : yko) (n : Nat) : Nat := (otherR (o.R n) o.f n).toNat
def yko.P (o : yko) : ByteArray := pDir (pickR o.path 8).toNat
def yko.W (o : yko) : Nat := (pickR o.what 8).toNat
def yko.T (o : yko) : Bool := pickR o.f 2 == 0
def rs0 : RS := ⟨fun _ => 0, []⟩
theorem yey {S : List RS} {r : Nat} (h : r < S.length) : S[r]? = some (S.getD r rs0) := by
 rw [List.getD_eq_getElem?_getD, List.getElem?_eq_getElem h]
 rfl
open Classical
theorem ynz {E : yav} (hE : yay E) (p : ByteArray) (R : Rec) : ybb p E = some R ↔ (p, R) ∈ E := by
 constructor
 ·exact yeb
 ·intro h
  have hs := yic h
  cases hg : ybb p E with
  |none => simp only at hs; rw [hg] at hs; cases hs
  |some R' =>
   have hm := yeb hg
   have : ∀ x ∈ E, ∀ y ∈ E, x.1 = y.1 → x = y := by
    intro x hx y hy e
    rcases List.pairwise_iff_forall_sublist.1 hE with _
    by_cases hxy : x = y
    ·exact hxy
    ·exfalso
     obtain ⟨i, hi, ei⟩ := List.getElem_of_mem hx
     obtain ⟨j, hj, ej⟩ := List.getElem_of_mem hy
     have hp := List.pairwise_iff_getElem.1 hE
     rcases Nat.lt_trichotomy i j with q | q | q
     ·have := hp i j hi hj q
      rw [ei, ej, e, ybt] at this
      cases this
     ·subst q
      exact hxy (ei.symm.trans ej)
     ·have := hp j i hj hi q
      rw [ei, ej, e, ybt] at this
      cases this
   have e := this _ hm _ h rfl
   cases e
   rfl
theorem ysi {E : yav} {p : ByteArray} {R : Rec} {x : ByteArray × Rec} : x ∈ yql p R E ↔ x = (p, R) ∨ (x ∈ E ∧ x.1 ≠ p) := by
 unfold yql
 simp only [List.mem_append, List.mem_cons, List.mem_filter]
 constructor
 ·rintro (⟨h, h1⟩ | rfl | ⟨h, h1⟩)
  ·exact .inr ⟨h, fun e => by rw [e, ybt] at h1; cases h1⟩
  ·exact .inl rfl
  ·exact .inr ⟨h, fun e => by rw [e, ybt] at h1; cases h1⟩
 ·rintro (rfl | ⟨h, h1⟩)
  ·exact .inr (.inl rfl)
  ·cases h2 : slt x.1 p with
   |true => exact .inl ⟨h, rfl⟩
   |false =>
    cases h3 : slt p x.1 with
    |true => exact .inr (.inr ⟨h, rfl⟩)
    |false => exact absurd (ypa h2 h3) h1
theorem ysh {E : yav} {p : ByteArray} {x : ByteArray × Rec} : x ∈ delE p E ↔ x ∈ E ∧ x.1 ≠ p := by
 unfold delE
 simp only [List.mem_append, List.mem_filter]
 constructor
 ·rintro (⟨h, h1⟩ | ⟨h, h1⟩)
  ·exact ⟨h, fun e => by rw [e, ybt] at h1; cases h1⟩
  ·exact ⟨h, fun e => by rw [e, ybt] at h1; cases h1⟩
 ·rintro ⟨h, h1⟩
  cases h2 : slt x.1 p with
  |true => exact .inl ⟨h, rfl⟩
  |false =>
   cases h3 : slt p x.1 with
   |true => exact .inr ⟨h, rfl⟩
   |false => exact absurd (ypa h2 h3) h1
def kept (cm : Nat → Int) (R : Rec) : Option Rec := if (decide (0 < R.bn) || !eqT R.kn cm) = true then some R else none
theorem opt_ext {a b : Option Rec} (h : ∀ R, a = some R ↔ b = some R) : a = b := by
 cases a with
 |none =>
  cases b with
  |none => rfl
  |some R => exact absurd ((h R).2 rfl) (by simp)
 |some R => exact ((h R).1 rfl).symm
theorem ykd {cm : Nat → Int} {p q : ByteArray} {R : Rec} {E : yav} (hE : yay E) : ybb q (ybl cm p R E) = if q = p then kept cm R else ybb q E := by
 have hk := ybx cm p R E hE
 apply opt_ext
 intro R'
 rw [ynz hk]
 unfold ybl kept
 by_cases hm : (decide (0 < R.bn) || !eqT R.kn cm) = true
 ·rw [if_pos hm, if_pos hm, ysi]
  by_cases e : q = p
  ·subst e
   rw [if_pos rfl]
   constructor
   ·rintro (h | ⟨_, h⟩)
    ·cases h; rfl
    ·exact absurd rfl h
   ·intro h; cases h; exact .inl rfl
  ·rw [if_neg e, ynz hE]
   constructor
   ·rintro (h | ⟨h, _⟩)
    ·cases h; exact absurd rfl e
    ·exact h
   ·intro h; exact .inr ⟨h, e⟩
 ·rw [if_neg hm, if_neg hm, ysh]
  by_cases e : q = p
  ·subst e
   rw [if_pos rfl]
   constructor
   ·rintro ⟨_, h⟩; exact absurd rfl h
   ·intro h; cases h
  ·rw [if_neg e, ynz hE]
   constructor
   ·rintro ⟨h, _⟩; exact h
   ·intro h; exact ⟨h, e⟩
section
variable {s : Nat} {cm : Nat → Int} {E : yav} {s' : Nat} {cm' : Nat → Int} {E' : yav}
theorem get_fold (p : ByteArray) (U : List ByteArray) : ∀ A : yav × List (ByteArray × Int), yay A.1 → ycm U → ybb p (U.foldl (yfx s cm E s' cm' E') A).1 = if p ∈ U then kept (yad cm cm') (yba (ybp s cm (ybb p E)) (ybp s' cm' (ybb p E'))).1 else ybb p A.1 := by
 induction U with
 |nil => intro A _ _; simp
 |cons q U ih =>
  intro A hA hU
  obtain ⟨h1, h2⟩ := List.pairwise_cons.1 hU
  rw [List.foldl_cons, ih _ (ybx _ _ _ _ hA) h2]
  show (if p ∈ U then _ else ybb p (ybl _ q _ A.1)) = _
  rw [ykd hA]
  by_cases e : p = q
  ·subst e
   have : ¬ p ∈ U := fun h => by have := h1 p h; rw [ybt] at this; cases this
   rw [if_neg this, if_pos rfl, if_pos (List.mem_cons_self ..)]
  ·rw [if_neg e]
   by_cases h : p ∈ U
   ·rw [if_pos h, if_pos (List.mem_cons_of_mem _ h)]
   ·rw [if_neg h, if_neg (by rw [List.mem_cons]; rintro (q | q); exact e q; exact h q)]
def toldP (s : Nat) (cm : Nat → Int) (E : yav) (s' : Nat) (cm' : Nat → Int) (E' : yav) (p : ByteArray) : List (ByteArray × Int) :=
 if (yba (ybp s cm (ybb p E)) (ybp s' cm' (ybb p E'))).2 = 0 then [] else [(p, (yba (ybp s cm (ybb p E)) (ybp s' cm' (ybb p E'))).2)]
theorem told_fold (U : List ByteArray) : ∀ A : yav × List (ByteArray × Int), (U.foldl (yfx s cm E s' cm' E') A).2 = A.2 ++ (U.map (toldP s cm E s' cm' E')).flatten := by
 induction U with
 |nil => intro A; simp
 |cons q U ih =>
  intro A
  rw [List.foldl_cons, ih, List.map_cons, List.flatten_cons, ← List.append_assoc]
  congr 1
  unfold yfx toldP
  split <;> simp
end
end Go.Proofs.YtaelaldmibgibaaGreat

namespace Go.Proofs.YtaelaldmibgibaaGreat
open Go.RowKit Go.Sim
open Classical
def sameF (a b : Rec) : Prop := a.text = b.text ∧ a.br = b.br ∧ a.bn = b.bn ∧ a.ch = b.ch
def CS (S : List RS) (i : Nat) : Int := (S.getD i rs0).cm i
theorem yny {S : List RS} {r : Nat} (h : r < S.length) (x : RS) : (S.set r x).getD r rs0 = x := by
 rw [List.getD_eq_getElem?_getD, List.getElem?_set_self h]
 rfl
theorem ykz {S : List RS} {r i : Nat} (h : r ≠ i) (x : RS) : (S.set r x).getD i rs0 = S.getD i rs0 := by
 rw [List.getD_eq_getElem?_getD, List.getElem?_set_ne h, ← List.getD_eq_getElem?_getD]
def ynm (a b : Rec) : Prop := (¬ 0 < a.bn ∧ ¬ 0 < b.bn) ∨ sameF a b
theorem ynm.bn {a b : Rec} (h : ynm a b) : 0 < a.bn ↔ 0 < b.bn := by
 rcases h with ⟨h1, h2⟩ | h
 ·exact ⟨fun q => absurd q h1, fun q => absurd q h2⟩
 ·rw [h.2.2.1]
def vw (i : Nat) (x : RS) (p : ByteArray) : Rec := ybp i x.cm (ybb p x.E)
theorem ynw {a b : Nat → Int} (h : eqT a b = true) : ∀ k < 6, a k = b k := by
 unfold eqT at h
 simp only [Bool.and_eq_true, beq_iff_eq] at h
 obtain ⟨h0, h1, h2, h3, h4, h5⟩ := h
 intro k hk
 match k, hk with
 |0, _ => exact h0
 |1, _ => exact h1
 |2, _ => exact h2
 |3, _ => exact h3
 |4, _ => exact h4
 |5, _ => exact h5
end Go.Proofs.YtaelaldmibgibaaGreat
