/- The twin: a pull of all. -/
import Derived.Test.YtaelaldmibgibaaGreatDoorX46
import Derived.Test.YtaelaldmibgibaaGreatDoorX47

set_option linter.all false
set_option maxHeartbeats 1000000

namespace Go.Proofs.K
open Go.RowKit Go.Sim
variable {l : List Nat} {a b gb nb pb : Nat} {S : List RS} {x y : RS} {V' W0 w : World} {L : List (Nat × Nat)} {u : Nat × Nat} {cm : Nat → Int} {A : yau × List (ByteArray × Int)}
def plR (s : Nat) (x : RS) (s' : Nat) (y : RS) : Int × RS × List (ByteArray × Int) :=
 if 20 < (ybw (yle s x.cm x.E s' y.cm y.E).1).length then (5, x, []) else (0, ⟨yac x.cm y.cm, (yle s x.cm x.E s' y.cm y.E).1⟩, (yle s x.cm x.E s' y.cm y.E).2)
theorem chv_one (s : Nat) (l : List (ByteArray × Int)) : ∀ u ∈ chv s l, u.oneCell' = true := by
 intro u hu
 unfold chv at hu
 obtain ⟨l', hl, hu⟩ := List.mem_flatten.1 hu
 obtain ⟨x, _, rfl⟩ := List.mem_map.1 hl
 simp at hu
 rcases hu with rfl | rfl | rfl <;> rfl
theorem yxd (h : l.Nodup) {x : Nat} (hx : x ∉ l) : (l.set a x).Nodup := by
 apply nodup_of
 intro i j v hi hj
 rw [List.getElem?_set] at hi hj
 split at hi
 ·next e1 =>
  split at hj
  ·next e2 => omega
  ·split at hi
   ·cases hi
    exact absurd (List.mem_of_getElem? hj) hx
   ·cases hi
 ·split at hj
  ·split at hj
   ·cases hj
    exact absurd (List.mem_of_getElem? hi) hx
   ·cases hj
  ·rcases Nat.decEq i j with q | q
   ·exact absurd rfl (yse h hi hj q)
   ·exact q
theorem yii (h : S[a]? = some x) : S.set a x = S := by
 apply List.ext_getElem?
 intro i
 rw [List.getElem?_set]
 split
 ·next e =>
  subst e
  rw [if_pos (List.getElem?_eq_some_iff.1 h).1, h]
 ·rfl
theorem yed {x k : Nat} (h : k ∈ l.set a x) : k = x ∨ k ∈ l := by
 rcases List.mem_or_eq_of_mem_set h with q | q
 ·exact .inr q
 ·exact .inl q
theorem Nt.put (h : Nt w nb pb L S) (hu : L[a]? = some u) {B ab am : Nat} {s' : RS} (hr : Rg w ab a s'.cm am s'.E) (hab : ab ≠ am) (h1 : nb < B) (h2 : pb < B) (h3 : ∀ x ∈ L, x.1 < B ∧ x.2 < B) (h4 : B ≤ ab) (h5 : B ≤ am) :
  Nt (w.setCell ⟨pb, a, none⟩ (.pointer (some ⟨ab, 0, none⟩))) nb pb (L.set a (ab, am)) (S.set a s') := by
 have hf : Fr (fun k => k = pb) w (w.setCell ⟨pb, a, none⟩ (.pointer (some ⟨ab, 0, none⟩))) := (Fr.refl (fun k => k = pb) w).setCell (p := ⟨pb, a, none⟩) (.inl rfl) _
 have hap := h.apart
 have hnp : nb ≠ pb := by
  simp only [List.nodup_cons, List.mem_cons, not_or] at hap
  exact hap.1.1
 obtain ⟨cur, hcur⟩ := h.pbk
 have hal : a < L.length := (List.getElem?_eq_some_iff.1 hu).1
 refine ⟨?_, fun i x s hi hs => ?_, Nat.lt_of_lt_of_le h.nlt hf.size, Nat.lt_of_lt_of_le h.plt hf.size, ?_, ⟨_, heap_setCell_same _ _ _ _ _ _ hcur⟩⟩
 ·rw [List.length_set]
  obtain ⟨cap, hc⟩ := h.net.blk
  refine ⟨⟨cap, by rw [hf.block nb h.nlt hnp]; exact hc⟩, by rw [List.length_map, List.length_set]; have := h.net.len; simpa using this, fun r b hb => ?_, h.net.n6⟩
  rw [List.getElem?_map, List.getElem?_set] at hb
  have old : ∀ r b, (L.map (·.1))[r]? = some b → cur[r]? = some (Value.pointer (some ⟨b, 0, none⟩)) := fun r b hb => by
   have := h.net.row r b hb
   simpa [World.cell?, hcur] using this
  have hsz : a < cur.size := by
   have := old a u.1 (by rw [List.getElem?_map, hu]; rfl)
   exact (Array.getElem?_eq_some_iff.1 this).1
  simp only [World.cell?, heap_setCell_same _ _ _ _ _ _ hcur]
  split at hb
  ·next e =>
   subst e
   simp at hb
   subst hb
   simp [hsz]
  ·next e =>
   have := old r b (by rw [List.getElem?_map]; exact hb)
   simp only [Array.getElem?_setIfInBounds_ne e]
   exact this
 ·by_cases e : a = i
  ·subst e
   rw [List.getElem?_set_self hal] at hi
   cases hi
   have hsl : a < S.length := by have := h.len; omega
   rw [List.getElem?_set_self hsl] at hs
   cases hs
   exact hr.keep (hf.block _ hr.rep.lt (fun e => by have : ab = pb := e; omega)) (hf.block _ hr.own.lt (fun e => by have : am = pb := e; omega))
  ·rw [List.getElem?_set_ne e] at hi hs
   have q := h.rep i x s hi hs
   obtain ⟨n1, n2, n3, n4⟩ := h.ne hi
   exact q.keep (hf.block _ q.rep.lt (fun e => n3 e.symm)) (hf.block _ q.own.lt (fun e => n4 e.symm))
 ·have hb1 : ∀ k ∈ L.map (·.1), k < B := fun k hk => by obtain ⟨x, hx, rfl⟩ := List.mem_map.1 hk; exact (h3 x hx).1
  have hb2 : ∀ k ∈ L.map (·.2), k < B := fun k hk => by obtain ⟨x, hx, rfl⟩ := List.mem_map.1 hk; exact (h3 x hx).2
  rw [List.map_set, List.map_set]
  simp only [List.nodup_cons, List.nodup_append, List.mem_cons, List.mem_append, not_or] at hap ⊢
  obtain ⟨⟨a1, a2, a3⟩, ⟨a4, a5⟩, a6, a7, a8⟩ := hap
  refine ⟨⟨a1, fun q => ?_, fun q => ?_⟩, ⟨fun q => ?_, fun q => ?_⟩, yxd a6 (fun q => by have := hb1 _ q; omega), yxd a7 (fun q => by have := hb2 _ q; omega), fun k hk j hj e => ?_⟩
  ·rcases yed q with e | e
   ·omega
   ·exact a2 e
  ·rcases yed q with e | e
   ·omega
   ·exact a3 e
  ·rcases yed q with e | e
   ·omega
   ·exact a4 e
  ·rcases yed q with e | e
   ·omega
   ·exact a5 e
  ·subst e
   rcases yed hk with e1 | e1
   ·rcases yed hj with e2 | e2
    ·omega
    ·have := hb2 _ e2; omega
   ·rcases yed hj with e2 | e2
    ·have := hb1 _ e1; omega
    ·exact a8 k e1 k e2 rfl
theorem ytp (V : World) (nb : Nat) (a b : Int) : Below V.heap.size V (ygl V nb a b) := by
 unfold ygl
 refine Below.alloc (Below.alloc (Below.alloc (Below.alloc (Below.alloc (Below.alloc (Below.alloc (Below.alloc (Below.refl _ _) ?_ _) ?_ _) ?_ _) ?_ _) ?_ _) ?_ _) ?_ _) ?_ _ <;> simp <;> omega
theorem aw_size (V : World) (nb : Nat) (a b : Int) : (ygl V nb a b).heap.size = V.heap.size + 8 := by simp [ygl]
theorem aw_fixed {V : World} (h : ybr V) (nb : Nat) (a b : Int) : ybr (ygl V nb a b) :=
 ybr.alloc (ybr.alloc (ybr.alloc (ybr.alloc (ybr.alloc (ybr.alloc (ybr.alloc (ybr.alloc h _ _) _ _) _ _) _ _) _ _) _ _) _ _) _ _
theorem aw_at (V : World) (nb : Nat) (a b : Int) (k : Nat) : (ygl V nb a b).heap[V.heap.size + k]? = (#[Obj.cells #[.pointer (some ⟨nb, 0, none⟩)] 33, .cells #[.pointer none, .slice none 0 0, .int .i64 0] 94, .cells #[.slice (some ⟨V.heap.size + 1, 0, none⟩) 1 1] 90, .cells #[] 150, .cells #[.int .i64 0] 3, .cells #[.int .i64 a, .int .i64 b] 47, .cells #[] 210, .cells #[] 1])[k]? := by
 have e : (ygl V nb a b).heap = V.heap ++ #[Obj.cells #[.pointer (some ⟨nb, 0, none⟩)] 33, .cells #[.pointer none, .slice none 0 0, .int .i64 0] 94, .cells #[.slice (some ⟨V.heap.size + 1, 0, none⟩) 1 1] 90, .cells #[] 150, .cells #[.int .i64 0] 3, .cells #[.int .i64 a, .int .i64 b] 47, .cells #[] 210, .cells #[] 1] := by
  unfold ygl World.alloc
  apply Array.toList_inj.1
  simp only [Array.toList_push, Array.toList_append, List.append_assoc, List.cons_append, List.nil_append]
 rw [e, Array.getElem?_append_right (by omega), Nat.add_sub_cancel_left]
theorem ymn (V : World) (nb : Nat) (a b : Int) (k : Nat) {cs : Array Value} {ty : TypeId} (h : (#[Obj.cells #[.pointer (some ⟨nb, 0, none⟩)] 33, .cells #[.pointer none, .slice none 0 0, .int .i64 0] 94, .cells #[.slice (some ⟨V.heap.size + 1, 0, none⟩) 1 1] 90, .cells #[] 150, .cells #[.int .i64 0] 3, .cells #[.int .i64 a, .int .i64 b] 47, .cells #[] 210, .cells #[] 1] : Array Obj)[k]? = some (.cells cs ty)) (o : Nat) : (ygl V nb a b).cell? ⟨V.heap.size + k, o, none⟩ = cs[o]? := by
 simp [World.cell?, aw_at, h]
def P3s (W0 : World) (nb a b : Nat) (cm : Nat → Int) (A : yau × List (ByteArray × Int)) (gb : Nat) (V' : World) : Prop :=
 ∃ V, Below W0.heap.size W0 V ∧ gb = V.heap.size + 1 ∧ PullLeft (ygl V nb a b) V' gb a cm A ∧ Fr (fun k => k = gb) (ygl V nb a b) V'
theorem P3s.below (h : P3s W0 nb a b cm A gb V') : Below W0.heap.size W0 V' := by
 obtain ⟨V, h1, rfl, _, hf⟩ := h
 have h2 := h1.trans ((ytp V nb a b).mono h1.size)
 have hs := h1.size
 exact ⟨hf.os.trans h2.os, hf.tape.trans h2.tape, hf.output.trans h2.output, Nat.le_trans h2.size hf.size, fun k hk => (hf.block k (by have := h2.size; omega) (by omega)).trans (h2.block k hk)⟩
theorem P3s.size (h : P3s W0 nb a b cm A gb V') : W0.heap.size ≤ V'.heap.size := h.below.size
theorem npulls (h : Nt w nb pb L S) (hF : ybr w) (a b : Nat) (hab : a ≠ b) {v : Nat × Nat} (hu : L[a]? = some u) (hv : L[b]? = some v) (hx : S[a]? = some x) (hy : S[b]? = some y)
  (hl : x.E.length + y.E.length < 900000) (hk : ∀ e ∈ x.E, e.1.size ≤ 1000000) (hk' : ∀ e ∈ y.E, e.1.size ≤ 1000000) :
  Calls (twin Tryz.prog pl) 17 #[.pointer (some ⟨nb, 0, none⟩), .int .i64 a, .int .i64 b] w fun e w' => ∃ rv r2, e = .returned (.tuple #[rv, r2]) ∧ r2 = .int .i64 (plR a x b y).1 ∧ ∃ L', Nt w' nb pb L' (S.set a (plR a x b y).2.1) ∧ w'.ownsRow w.heap.size 44 3 rv (plR a x b y).2.2.length (chv a (plR a x b y).2.2) ∧ Fr (fun k => k = pb) w w' ∧ ∀ x ∈ L', x ∈ L ∨ (w.heap.size ≤ x.1 ∧ w.heap.size ≤ x.2) := by
 refine qpull nb a b w _ ?_
 have hal : a < S.length := (List.getElem?_eq_some_iff.1 hx).1
 have hbl : b < S.length := (List.getElem?_eq_some_iff.1 hy).1
 have n6 := h.net.n6
 have hok : okP S.length a b = true := by
  unfold okP
  simp only [Bool.and_eq_true, decide_eq_true_eq, Bool.not_eq_true', beq_eq_false_iff_ne]
  omega
 generalize hW : w.alloc (.cells #[.int .i64 (a : Int), .int .i64 (b : Int)] 47) = W0
 have bW : Below w.heap.size w W0 := by rw [← hW]; exact (Below.refl _ _).alloc (Nat.le_refl _) _
 have fW : ybr W0 := by rw [← hW]; exact ybr.alloc hF _ _
 have sW : W0.heap.size = w.heap.size + 1 := by rw [← hW]; simp
 have g0 : W0.cell? ⟨w.heap.size, 0, none⟩ = some (.int .i64 a) := by rw [← hW]; simp only [World.cell?, heap_alloc_new]; rfl
 have g1 : W0.cell? ⟨w.heap.size, 1, none⟩ = some (.int .i64 b) := by rw [← hW]; simp only [World.cell?, heap_alloc_new]; rfl
 clear hW
 have cellW : ∀ V, Below W0.heap.size W0 V → V.cell? ⟨w.heap.size, 0, none⟩ = some (.int .i64 a) ∧ V.cell? ⟨w.heap.size, 1, none⟩ = some (.int .i64 b) := fun V hV => ⟨(hV.cell (p := ⟨w.heap.size, 0, none⟩) (by simp only; omega)).trans g0, (hV.cell (p := ⟨w.heap.size, 1, none⟩) (by simp only; omega)).trans g1⟩
 have belW : ∀ V, Below W0.heap.size W0 V → Below w.heap.size w V := fun V hV => bW.trans (hV.mono bW.size)
 have h1 : Calls (twin Tryz.prog pl) 40 #[.pointer (some ⟨nb, 0, none⟩), .slice (some ⟨w.heap.size, 0, none⟩) 1 1] W0 fun e w' => e = .returned (.bool true) ∧ (Below W0.heap.size W0 w' ∧ ybr w') := by
  have hN := h.below bW
  refine (shared.calls (by decide) fW (ynk nb S.length pb (L.map (·.1)) w.heap.size 1 a b W0 hN.net hN.nlt hN.plt (by omega) g0 g1) (fun e w' h => ⟨_, h.1⟩)).mono ?_
  rintro e w' ⟨⟨rfl, hb⟩, hf⟩
  rw [hok]
  exact ⟨rfl, hb, hf⟩
 have h2 : ∀ V, (Below W0.heap.size W0 V ∧ ybr V) → Calls (twin Tryz.prog pl) 41 #[.slice (some ⟨w.heap.size, 0, none⟩) 1 1] V fun e w' => e = .returned (.bool true) ∧ (Below W0.heap.size W0 w' ∧ ybr w') := by
  rintro V ⟨hb, hf⟩
  refine (shared.calls (by decide) hf (ywh w.heap.size 1 a b (by omega) (by omega) V (by have := hb.size; omega) (cellW V hb).1 (cellW V hb).2) (fun e w' h => ⟨_, h.1⟩)).mono ?_
  rintro e w' ⟨⟨rfl, hb'⟩, hf'⟩
  exact ⟨rfl, hb.trans (hb'.mono hb.size), hf'⟩
 have h3 : ∀ V, (Below W0.heap.size W0 V ∧ ybr V) → Calls (twin Tryz.prog pl) 42 #[.pointer (some ⟨nb, 0, none⟩), .slice (some ⟨w.heap.size, 0, none⟩) 1 1] V fun e w' => ∃ gb, e = .returned (.slice (some ⟨gb, 0, none⟩) 1 1) ∧ P3s W0 nb a b (yac x.cm y.cm) (yle a x.cm x.E b y.cm y.E) gb w' := by
  rintro V ⟨hb, hf⟩
  have hN := (h.below (belW V hb)).below (ytp V nb a b)
  refine (qpulls_one nb w.heap.size 1 a b V (cellW V hb).1 (cellW V hb).2 (by have := hb.size; omega) (fun w' => P3s W0 nb a b (yac x.cm y.cm) (yle a x.cm x.E b y.cm y.E) (V.heap.size + 1) w') ?_).mono (fun e w' h => ⟨_, h.1, h.2⟩)
  refine (shared.calls (by decide) (aw_fixed hf nb a b) (work_any V.heap.size (V.heap.size + 5) (V.heap.size + 2) (V.heap.size + 4) (V.heap.size + 1) hN a b hu hv hx hy hl hk hk' (ymn V nb a b 0 rfl 0) (ymn V nb a b 5 rfl 0) (ymn V nb a b 5 rfl 1) (ymn V nb a b 2 rfl 0) (ymn V nb a b 4 rfl 0) (aw_at V nb a b 1)) (fun e w' h => ⟨_, h.1⟩)).mono ?_
  rintro e w' ⟨⟨rfl, hp, hfr⟩, _⟩
  refine ⟨rfl, ?_, V, hb, rfl, hp, hfr⟩
  rw [World.cell?_of_block (w := ygl V nb a b) (hfr.block (V.heap.size + 2) (by rw [aw_size]; omega) (by omega))]
  exact ymn V nb a b 2 rfl 0
 by_cases hfull : 20 < (ybw (yle a x.cm x.E b y.cm y.E).1).length
 ·have ep : plR a x b y = (5, x, []) := by unfold plR; rw [if_pos hfull]
  rw [ep]
  refine (qround_full nb w.heap.size 1 W0 h1 h2 h3 (fun gb V hP => ?_)).mono ?_
  ·obtain ⟨V0, _, _, hp | hp, _⟩ := hP
   ·exact hp.2
   ·omega
  ·rintro e w' ⟨rfl, gb, V, hP, hb⟩
   have hb' := hP.below
   have hbw := belW w' (hb'.trans (hb.mono hb'.size))
   refine ⟨_, _, rfl, rfl, L, ?_, World.ownsRow_nil _ _ _ _, Fr.of_below hbw, fun x hx => .inl hx⟩
   rw [yii hx]
   exact h.below hbw
 ·have ep : plR a x b y = (0, ⟨yac x.cm y.cm, (yle a x.cm x.E b y.cm y.E).1⟩, (yle a x.cm x.E b y.cm y.E).2) := by unfold plR; rw [if_neg hfull]
  rw [ep]
  obtain ⟨cap, hc⟩ := h.net.blk
  obtain ⟨cur, hcur⟩ := h.pbk
  have hm : (yle a x.cm x.E b y.cm y.E).2.length ≤ 1000000 := by
   have q1 := (accP_len a x.cm x.E b y.cm y.E (ydy (x.E.map (·.1)) (y.E.map (·.1))) ([], [])).2
   have q2 := yyx (y.E.map (·.1)) (x.E.map (·.1))
   rw [List.length_map, List.length_map] at q2
   show ((ydy (x.E.map (·.1)) (y.E.map (·.1))).foldl (yiu a x.cm x.E b y.cm y.E) ([], [])).2.length ≤ _
   simp only [List.length_nil] at q1
   omega
  have hLB : ∀ x ∈ L, x.1 < w.heap.size ∧ x.2 < w.heap.size := fun z hz => by
   obtain ⟨i, hi⟩ := List.getElem?_of_mem hz
   have hil : i < S.length := by have := (List.getElem?_eq_some_iff.1 hi).1; have := h.len; omega
   have q := h.rep i z _ hi (List.getElem?_eq_getElem hil)
   exact ⟨q.rep.lt, q.own.lt⟩
  refine (qround_ok nb w.heap.size 1 W0 a pb S.length cap (yle a x.cm x.E b y.cm y.E).2.length (chv a (yle a x.cm x.E b y.cm y.E).2) n6 hal h1 h2 h3 (fun gb V hP => ?_)).mono ?_
  ·have hbV := belW V hP.below
   have hcl := (cellW V hP.below).1
   have hsz := hP.size
   obtain ⟨V0, hV0, rfl, hp | ⟨hle, ab, am, z, cv, q1, q2, q3, q4, q5, q6, q7, q8, q9⟩, hfr⟩ := hP
   ·omega
   ·refine ⟨ab, z, cv, q1, q3, chv_one _ _, hm, fun e => q9 (List.length_eq_zero_iff.1 e), ?_, hcl, ⟨_, (h.below hbV).net.row a u.1 (by rw [List.getElem?_map, hu]; rfl)⟩, ?_, Nat.lt_of_lt_of_le h.nlt hbV.size, Nat.lt_of_lt_of_le h.plt hbV.size, by omega⟩
    ·rw [hbV.cell (p := ⟨nb, 0, none⟩) h.nlt]
     simp [World.cell?, hc]
    ·simp [World.frozen?, hbV.block pb h.plt, hcur]
  ·rintro e w' ⟨gb, V, V', ab, z, cv, rv, rfl, hP, hg, hown, hB, hR, rfl⟩
   have hbV := hP.below
   have hbV' := belW V' (hbV.trans (hB.mono hbV.size))
   have hsz := hP.size
   obtain ⟨V0, hV0, rfl, hp | ⟨hle, ab', am, z', cv', q1, q2, q3, q4, q5, q6, q7, q8, q9⟩, hfr⟩ := hP
   ·omega
   ·rw [hg] at q1
    simp only [Option.some.injEq, Obj.cells.injEq, Array.mk.injEq, List.cons.injEq, Value.pointer.injEq, Addr.mk.injEq, and_true] at q1
    obtain ⟨rfl, rfl⟩ := q1
    have ga := (ytp V0 nb a b).size
    have g0 := hV0.size
    have hN := h.below hbV'
    have hput := hN.put hu (s' := ⟨yac x.cm y.cm, (yle a x.cm x.E b y.cm y.E).1⟩) (q2.below hB) q6 h.nlt h.plt hLB (B := w.heap.size) (by omega) (by omega)
    have hfp : Fr (fun k => k = pb) V' (V'.setCell ⟨pb, a, none⟩ (.pointer (some ⟨ab, 0, none⟩))) := (Fr.refl (fun k => k = pb) V').setCell (p := ⟨pb, a, none⟩) (.inl rfl) _
    refine ⟨_, _, rfl, rfl, _, hput, ?_, (Fr.of_below hbV').trans hfp, fun x hx => ?_⟩
    ·have hpl := h.plt
     refine ydp (yas hR (fun k e => hfp.block k (World.ownsRow.lt hR k e).2 (by have := (World.ownsRow.lt hR k e).1; omega))) (fun k e => by have := (World.ownsRow.lt hR k e).1; omega)
    ·rcases List.mem_or_eq_of_mem_set hx with q | rfl
     ·exact .inl q
     ·exact .inr ⟨by simp only; omega, by simp only; omega⟩
theorem yxb {s : Nat} {E : yau} {s' : Nat} {cm' : Nat → Int} {E' : yau} (U : List ByteArray) : ∀ (A : yau × List (ByteArray × Int)) x, x ∈ (U.foldl (yiu s cm E s' cm' E') A).1 → x ∈ A.1 ∨ x.1 ∈ U := by
 induction U with
 |nil => intro A x hx; exact .inl hx
 |cons p U ih =>
  intro A x hx
  rcases ih _ x hx with q | q
  ·rcases yjg q with rfl | q
   ·exact .inr (List.mem_cons_self ..)
   ·exact .inl q
  ·exact .inr (List.mem_cons_of_mem _ q)
theorem plR_kin {r : Nat} {s : RS} {r' : Nat} (hr : yav s.E) (hs : ∀ x ∈ s.E, x.1 ∈ yck) (hy : ∀ x ∈ y.E, x.1 ∈ yck) : ∀ x ∈ (plR r s r' y).2.1.E, x.1 ∈ yck := by
 unfold plR
 split
 ·exact hs
 ·intro x hx
  rcases yxb _ _ x hx with q | q
  ·simp at q
  ·have hE : ycz (s.E.map (·.1)) := by
    unfold ycz
    rw [List.pairwise_map]
    exact hr
   rcases ((yhn _ _ hE).2 x.1).1 q with q | q
   ·obtain ⟨z, hz, e⟩ := List.mem_map.1 q
    rw [← e]; exact hs z hz
   ·obtain ⟨z, hz, e⟩ := List.mem_map.1 q
    rw [← e]; exact hy z hz
theorem ePull {w0 : World} {K : List Nat} (h : Ne w0 w nb S K) (a b : Nat) (hab : a ≠ b) (hx : S[a]? = some x) (hy : S[b]? = some y) :
  Calls (twin Tryz.prog pl) 17 #[.pointer (some ⟨nb, 0, none⟩), .int .i64 a, .int .i64 b] w fun e w' => ∃ rv, e = .returned (.tuple #[rv, .int .i64 (plR a x b y).1]) ∧ Ne w0 w' nb (S.set a (plR a x b y).2.1) K ∧ ydr K w w' ∧ w'.ownsRow w.heap.size 44 3 rv (plR a x b y).2.2.length (chv a (plR a x b y).2.2) := by
 obtain ⟨pb, L, hN, h1, h2, h3⟩ := h.ex
 obtain ⟨u, hu, hl⟩ := h.at hN hx
 obtain ⟨v, hv, hl'⟩ := h.at hN hy
 refine (tame_on (by decide) h.fix (npulls hN h.fix a b hab hu hv hx hy (by omega) (fun e he => by have := (ygj _ (h.kin.at hx e he)).2; omega) (fun e he => by have := (ygj _ (h.kin.at hy e he)).2; omega)) (fun e w' h => by obtain ⟨rv, r2, e, _⟩ := h; exact ⟨_, e⟩)).mono ?_
 rintro e w' ⟨⟨rv, r2, rfl, rfl, L', hN', hrow, hf, hL⟩, hx'⟩
 obtain ⟨q1, q2⟩ := h.step hN h1 h2 h3 (hf.mono fun k _ e => .inl e) hN' hL (h.kin.set a (plR_kin (hN.rep a u x hu hx).ris (h.kin.at hx) (h.kin.at hy))) hx'
 exact ⟨rv, rfl, q1, q2, hrow⟩
end Go.Proofs.K

namespace Go.Proofs.K
open Go.RowKit Go.Sim
variable {B B' : Int} {s y : RS} {S : List RS} {f i n r : Nat} {a b cm : Nat → Int} {p : ByteArray}
structure Wf1 (B : Int) (s : RS) : Prop where
 ris : yav s.E
 kin : ∀ x ∈ s.E, x.1 ∈ yck
 lo : ∀ i, 0 ≤ s.cm i
 hi : ∀ i, s.cm i ≤ B
def Wf (B : Int) (S : List RS) : Prop := ∀ s ∈ S, Wf1 B s
theorem Wf1.len (h : Wf1 B s) : s.E.length ≤ 10 := by
 have h1 : (s.E.map (·.1)).Pairwise (fun a b => slt a b = true) := by
  rw [List.pairwise_map]
  exact h.ris
 have := ynt (m := yck) h1 (fun x hx => by obtain ⟨y, hy, rfl⟩ := List.mem_map.1 hx; exact h.kin y hy)
 simpa [yck] using this
theorem Wf1.room (h : Wf1 B s) (R : Rec) : noRoom R s.E = false := by
 have h1 := yng s.E
 have h2 := h.len
 unfold noRoom
 rw [Bool.and_eq_false_iff]
 right
 simp
 omega
theorem Wf1.mono (h : Wf1 B s) (hb : B ≤ B') : Wf1 B' s := ⟨h.ris, h.kin, h.lo, fun i => Int.le_trans (h.hi i) hb⟩
theorem Wf.mono (h : Wf B S) (hb : B ≤ B') : Wf B' S := fun s hs => (h s hs).mono hb
theorem Wf.at (h : Wf B S) (hs : S[r]? = some s) : Wf1 B s := h s (List.mem_of_getElem? hs)
theorem Wf.set (h : Wf B S) (r : Nat) (hs : Wf1 B s) : Wf B (S.set r s) := by
 intro s' hs'
 rcases List.mem_or_eq_of_mem_set hs' with h1 | rfl
 ·exact h s' h1
 ·exact hs
theorem yjv (h0 : 0 ≤ B) (h1 : a i ≤ B) (h2 : b i ≤ B) : yac a b i ≤ B := by
 unfold yac g1 zer
 (repeat' split) <;> omega
theorem ycd (a b : Nat → Int) (i : Nat) : 0 ≤ yac a b i ∧ a i ≤ yac a b i ∧ b i ≤ yac a b i := by
 unfold yac g1 zer
 (repeat' split) <;> omega
theorem ylm (h : 0 ≤ a i) : yac a b i = max (a i) (b i) := by
 unfold yac g1 zer
 (repeat' split) <;> omega
theorem tf_eq (r : Nat) (x : Int) (i : Nat) (hr : r < 6) : tf r x i = if i = r then x else 0 := by
 unfold tf one
 match r, hr with
 |0, _ | 1, _ | 2, _ | 3, _ | 4, _ | 5, _ =>
  rcases i with _ | _ | _ | _ | _ | _ | i <;> simp
theorem nxG_le {s : Nat} (hs : s < 6) (h0 : 0 ≤ B) (h : ∀ i, cm i ≤ B) (i : Nat) : nxG s cm i ≤ B + 1 := by
 unfold nxG
 refine yjv (by omega) (by have := h i; omega) ?_
 rw [tf_eq _ _ _ hs]
 split
 ·have := h s; omega
 ·omega
theorem nxG_lo (s : Nat) (cm : Nat → Int) (i : Nat) : 0 ≤ nxG s cm i := (ycd _ _ _).1
theorem Wf1.next (h : Wf1 B s) (hr : r < 6) (h0 : 0 ≤ B) (hp : p ∈ yck) (R : Rec) : Wf1 (B + 1) ⟨nxG r s.cm, yce (nxG r s.cm) p R s.E⟩ :=
 ⟨yco _ _ _ _ h.ris, yjx hp h.kin, nxG_lo r s.cm, nxG_le hr h0 h.hi⟩
theorem wr_wf (h : Wf1 B s) (hr : r < 6) (h0 : 0 ≤ B) (hB : B < 1000000000) (hp : p ∈ yck) (t : ByteArray) : (wrR r s p t).1 = 0 ∧ Wf1 (B + 1) (wrR r s p t).2 := by
 unfold wrR
 have hc : (decide (1000000000 ≤ s.cm r) || noRoom (ybk r s.cm (ybh p s.E)) s.E) = false := by
  rw [h.room]
  have := h.hi r
  simp
  omega
 rw [hc, if_neg (by simp)]
 exact ⟨rfl, h.next hr h0 hp _⟩
theorem rm_wf (h : Wf1 B s) (hr : r < 6) (h0 : 0 ≤ B) (hB : B < 1000000000) (hp : p ∈ yck) : ((rmR r s p).1 = 0 ∨ (rmR r s p).1 = 4) ∧ Wf1 (B + 1) (rmR r s p).2 := by
 unfold rmR
 split
 ·exact ⟨.inr rfl, h.mono (by omega)⟩
 ·have hc : decide (1000000000 ≤ s.cm r) = false := by have := h.hi r; simp; omega
  rw [hc, if_neg (by simp)]
  exact ⟨.inl rfl, h.next hr h0 hp _⟩
theorem pp_wf (h : Wf1 B s) (hp : p ∈ yck) : (ppR r s f y p).2.1 = 0 ∧ Wf1 B (ppR r s f y p).2.2 := by
 unfold ppR
 rw [h.room, Bool.and_false, if_neg (by simp)]
 exact ⟨rfl, yco _ _ _ _ h.ris, yjx hp h.kin, h.lo, h.hi⟩
theorem rising_fold {s : Nat} {E : yau} {s' : Nat} {cm' : Nat → Int} {E' : yau} (U : List ByteArray) : ∀ A : yau × List (ByteArray × Int), yav A.1 → yav (U.foldl (yiu s cm E s' cm' E') A).1 := by
 induction U with
 |nil => intro A h; exact h
 |cons p U ih => intro A h; exact ih _ (yco _ _ _ _ h)
theorem pl_wf (h : Wf1 B s) (hy : Wf1 B y) (h0 : 0 ≤ B) : (plR r s f y).1 = 0 ∧ Wf1 B (plR r s f y).2.1 ∧ (plR r s f y).2.2 = (yle r s.cm s.E f y.cm y.E).2 ∧ (plR r s f y).2.1 = ⟨yac s.cm y.cm, (yle r s.cm s.E f y.cm y.E).1⟩ := by
 have hk := plR_kin (r := r) (r' := f) h.ris h.kin hy.kin
 have hw : ∀ x ∈ (yle r s.cm s.E f y.cm y.E).1, x.1 ∈ yck := by
  intro x hx
  rcases yxb _ _ x hx with q | q
  ·simp at q
  ·have hE : ycz (s.E.map (·.1)) := by
    unfold ycz
    rw [List.pairwise_map]
    exact h.ris
   rcases ((yhn _ _ hE).2 x.1).1 q with q | q
   ·obtain ⟨z, hz, e⟩ := List.mem_map.1 q
    rw [← e]; exact h.kin z hz
   ·obtain ⟨z, hz, e⟩ := List.mem_map.1 q
    rw [← e]; exact hy.kin z hz
 have hwf : Wf1 B ⟨yac s.cm y.cm, (yle r s.cm s.E f y.cm y.E).1⟩ := ⟨rising_fold _ _ List.Pairwise.nil, hw, fun i => (ycd _ _ i).1, fun i => yjv h0 (h.hi i) (hy.hi i)⟩
 have hl : ¬ 20 < (ybw (yle r s.cm s.E f y.cm y.E).1).length := by
  have h1 := yng (yle r s.cm s.E f y.cm y.E).1
  have h2 := hwf.len
  simp only at h2
  omega
 unfold plR
 rw [if_neg hl]
 exact ⟨rfl, hwf, rfl, rfl⟩
theorem rs_wf (h : Wf1 B s) (hr : r < 6) (h0 : 0 ≤ B) (hB : B < 1000000000) (hp : p ∈ yck) (th : Bool) : ((rsR r s f y p th).1 = 0 ∨ (rsR r s f y p th).1 = 4) ∧ Wf1 (B + 1) (rsR r s f y p th).2 := by
 unfold rsR rsRec
 split
 ·exact ⟨.inr rfl, h.mono (by omega)⟩
 ·have hc : (decide (1000000000 ≤ s.cm r) || (decide (0 < (yay th (ybk r s.cm (ybh p s.E)) (ybk f y.cm (ybh p y.E))).bn) && noRoom (ybk r s.cm (ybh p s.E)) s.E)) = false := by
   rw [h.room, Bool.and_false]
   have := h.hi r
   simp
   omega
  rw [hc, if_neg (by simp)]
  exact ⟨.inl rfl, h.next hr h0 hp _⟩
structure ych where
 what : Int
 r : Int
 f : Int
 path : Int
 text : ByteArray
def ych.R (o : ych) (n : Nat) : Nat := (yfh o.r n).toNat
def ych.F (o : ych) (n : Nat) : Nat := (yns (o.R n) o.f n).toNat
def ych.P (o : ych) : ByteArray := pDir (yfh o.path 8).toNat
def ych.W (o : ych) : Nat := (yfh o.what 8).toNat
def ych.T (o : ych) : Bool := yfh o.f 2 == 0
def rs0 : RS := ⟨fun _ => 0, []⟩
def ydd (n : Nat) (S : List RS) (o : ych) : List RS :=
 if o.W ≤ 2 then S.set (o.R n) (wrR (o.R n) (S.getD (o.R n) rs0) o.P (cutT o.text)).2
 else if o.W = 3 then S.set (o.R n) (rmR (o.R n) (S.getD (o.R n) rs0) o.P).2
 else if o.W = 4 then S.set (o.R n) (ppR (o.R n) (S.getD (o.R n) rs0) (o.F n) (S.getD (o.F n) rs0) o.P).2.2
 else if o.W ≤ 6 then S.set (o.R n) (plR (o.R n) (S.getD (o.R n) rs0) (o.F n) (S.getD (o.F n) rs0)).2.1
 else S.set (o.R n) (rsR (o.R n) (S.getD (o.R n) rs0) (o.F n) (S.getD (o.F n) rs0) o.P o.T).2
theorem ych.R_lt (o : ych) (hn : 2 ≤ n) : o.R n < n := by
 have := yel o.r n (by omega)
 unfold ych.R
 omega
theorem ych.F_ok (o : ych) (hn : 2 ≤ n) : o.F n < n ∧ o.F n ≠ o.R n := by
 have := ypq (o.R n) n o.f (o.R_lt hn) hn
 unfold ych.F
 omega
theorem ych.P_in (o : ych) : o.P ∈ yck := by
 have := yel o.path 8 (by decide)
 unfold ych.P
 have h : (yfh o.path 8).toNat < 8 := by omega
 generalize (yfh o.path 8).toNat = k at *
 match k, h with
 |0, _ => exact List.mem_cons_of_mem _ (List.mem_cons_of_mem _ (List.mem_cons_self ..))
 |1, _ => exact List.mem_cons_of_mem _ (List.mem_cons_of_mem _ (List.mem_cons_of_mem _ (List.mem_cons_self ..)))
 |2, _ => exact List.mem_cons_of_mem _ (List.mem_cons_of_mem _ (List.mem_cons_of_mem _ (List.mem_cons_of_mem _ (List.mem_cons_self ..))))
 |3, _ => exact List.mem_cons_of_mem _ (List.mem_cons_of_mem _ (List.mem_cons_of_mem _ (List.mem_cons_of_mem _ (List.mem_cons_of_mem _ (List.mem_cons_self ..)))))
 |4, _ => exact List.mem_cons_of_mem _ (List.mem_cons_of_mem _ (List.mem_cons_of_mem _ (List.mem_cons_of_mem _ (List.mem_cons_of_mem _ (List.mem_cons_of_mem _ (List.mem_cons_self ..))))))
 |5, _ => exact List.mem_cons_of_mem _ (List.mem_cons_of_mem _ (List.mem_cons_of_mem _ (List.mem_cons_of_mem _ (List.mem_cons_of_mem _ (List.mem_cons_of_mem _ (List.mem_cons_of_mem _ (List.mem_cons_self ..)))))))
 |6, _ => exact List.mem_cons_of_mem _ (List.mem_cons_of_mem _ (List.mem_cons_of_mem _ (List.mem_cons_of_mem _ (List.mem_cons_of_mem _ (List.mem_cons_of_mem _ (List.mem_cons_of_mem _ (List.mem_cons_of_mem _ (List.mem_cons_self ..))))))))
 |7, _ => exact List.mem_cons_of_mem _ (List.mem_cons_of_mem _ (List.mem_cons_of_mem _ (List.mem_cons_of_mem _ (List.mem_cons_of_mem _ (List.mem_cons_of_mem _ (List.mem_cons_of_mem _ (List.mem_cons_of_mem _ (List.mem_cons_of_mem _ (List.mem_cons_self ..)))))))))
theorem ybo (h : r < S.length) : S[r]? = some (S.getD r rs0) := by
 rw [List.getD_eq_getElem?_getD, List.getElem?_eq_getElem h]
 rfl
theorem doStep_len (n : Nat) (S : List RS) (o : ych) : (ydd n S o).length = S.length := by
 unfold ydd
 (repeat' split) <;> simp
theorem doStep_wf (hn : 2 ≤ n) (h6 : n ≤ 6) (hS : S.length = n) (h0 : 0 ≤ B) (hB : B < 1000000000) (h : Wf B S) (o : ych) : Wf (B + 1) (ydd n S o) := by
 have hr := o.R_lt hn
 have hf := o.F_ok hn
 have h1 := h.at (ybo (S := S) (r := o.R n) (by omega))
 have h2 := h.at (ybo (S := S) (r := o.F n) (by omega))
 have hm := h.mono (show B ≤ B + 1 by omega)
 unfold ydd
 split
 ·exact hm.set _ (wr_wf h1 (by omega) h0 hB o.P_in _).2
 ·split
  ·exact hm.set _ (rm_wf h1 (by omega) h0 hB o.P_in).2
  ·split
   ·exact hm.set _ ((pp_wf h1 o.P_in).2.mono (by omega))
   ·split
    ·exact hm.set _ ((pl_wf h1 h2 h0).2.1.mono (by omega))
    ·exact hm.set _ (rs_wf h1 (by omega) h0 hB o.P_in _).2
end Go.Proofs.K

namespace Go.Proofs.K
open Go.RowKit Go.Sim
open Classical
theorem ytx {E : yau} (hE : yav E) (p : ByteArray) (R : Rec) : ybh p E = some R ↔ (p, R) ∈ E := by
 constructor
 ·exact ylq
 ·intro h
  have hs := yln h
  cases hg : ybh p E with
  |none => simp only at hs; rw [hg] at hs; cases hs
  |some R' =>
   have hm := ylq hg
   have : ∀ x ∈ E, ∀ y ∈ E, x.1 = y.1 → x = y := by
    intro x hx y hy e
    rcases List.pairwise_iff_forall_sublist.1 hE with _
    by_cases hxy : x = y
    ·exact hxy
    ·exfalso
     obtain ⟨i, hi, ei⟩ := List.getElem_of_mem hx
     obtain ⟨j, hj, ej⟩ := List.getElem_of_mem hy
     have hp := List.pairwise_iff_getElem.1 hE
     rcases Nat.lt_trichotomy i j with q | q | q
     ·have := hp i j hi hj q
      rw [ei, ej, e, ycc] at this
      cases this
     ·subst q
      exact hxy (ei.symm.trans ej)
     ·have := hp j i hj hi q
      rw [ei, ej, e, ycc] at this
      cases this
   have e := this _ hm _ h rfl
   cases e
   rfl
theorem mem_put_iff {E : yau} {p : ByteArray} {R : Rec} {x : ByteArray × Rec} : x ∈ yoj p R E ↔ x = (p, R) ∨ (x ∈ E ∧ x.1 ≠ p) := by
 unfold yoj
 simp only [List.mem_append, List.mem_cons, List.mem_filter]
 constructor
 ·rintro (⟨h, h1⟩ | rfl | ⟨h, h1⟩)
  ·exact .inr ⟨h, fun e => by rw [e, ycc] at h1; cases h1⟩
  ·exact .inl rfl
  ·exact .inr ⟨h, fun e => by rw [e, ycc] at h1; cases h1⟩
 ·rintro (rfl | ⟨h, h1⟩)
  ·exact .inr (.inl rfl)
  ·cases h2 : slt x.1 p with
   |true => exact .inl ⟨h, rfl⟩
   |false =>
    cases h3 : slt p x.1 with
    |true => exact .inr (.inr ⟨h, rfl⟩)
    |false => exact absurd (yqi h2 h3) h1
theorem mem_del_iff {E : yau} {p : ByteArray} {x : ByteArray × Rec} : x ∈ yyz p E ↔ x ∈ E ∧ x.1 ≠ p := by
 unfold yyz
 simp only [List.mem_append, List.mem_filter]
 constructor
 ·rintro (⟨h, h1⟩ | ⟨h, h1⟩)
  ·exact ⟨h, fun e => by rw [e, ycc] at h1; cases h1⟩
  ·exact ⟨h, fun e => by rw [e, ycc] at h1; cases h1⟩
 ·rintro ⟨h, h1⟩
  cases h2 : slt x.1 p with
  |true => exact .inl ⟨h, rfl⟩
  |false =>
   cases h3 : slt p x.1 with
   |true => exact .inr ⟨h, rfl⟩
   |false => exact absurd (yqi h2 h3) h1
def kept (cm : Nat → Int) (R : Rec) : Option Rec := if (decide (0 < R.bn) || !eqT R.kn cm) = true then some R else none
theorem opt_ext {a b : Option Rec} (h : ∀ R, a = some R ↔ b = some R) : a = b := by
 cases a with
 |none =>
  cases b with
  |none => rfl
  |some R => exact absurd ((h R).2 rfl) (by simp)
 |some R => exact ((h R).1 rfl).symm
theorem yty {cm : Nat → Int} {p q : ByteArray} {R : Rec} {E : yau} (hE : yav E) : ybh q (yce cm p R E) = if q = p then kept cm R else ybh q E := by
 have hk := yco cm p R E hE
 apply opt_ext
 intro R'
 rw [ytx hk]
 unfold yce kept
 by_cases hm : (decide (0 < R.bn) || !eqT R.kn cm) = true
 ·rw [if_pos hm, if_pos hm, mem_put_iff]
  by_cases e : q = p
  ·subst e
   rw [if_pos rfl]
   constructor
   ·rintro (h | ⟨_, h⟩)
    ·cases h; rfl
    ·exact absurd rfl h
   ·intro h; cases h; exact .inl rfl
  ·rw [if_neg e, ytx hE]
   constructor
   ·rintro (h | ⟨h, _⟩)
    ·cases h; exact absurd rfl e
    ·exact h
   ·intro h; exact .inr ⟨h, e⟩
 ·rw [if_neg hm, if_neg hm, mem_del_iff]
  by_cases e : q = p
  ·subst e
   rw [if_pos rfl]
   constructor
   ·rintro ⟨_, h⟩; exact absurd rfl h
   ·intro h; cases h
  ·rw [if_neg e, ytx hE]
   constructor
   ·rintro ⟨h, _⟩; exact h
   ·intro h; exact ⟨h, e⟩
section
variable {s : Nat} {cm : Nat → Int} {E : yau} {s' : Nat} {cm' : Nat → Int} {E' : yau}
theorem get_fold (p : ByteArray) (U : List ByteArray) : ∀ A : yau × List (ByteArray × Int), yav A.1 → ycz U → ybh p (U.foldl (yiu s cm E s' cm' E') A).1 = if p ∈ U then kept (yac cm cm') (ydk (ybk s cm (ybh p E)) (ybk s' cm' (ybh p E'))).1 else ybh p A.1 := by
 induction U with
 |nil => intro A _ _; simp
 |cons q U ih =>
  intro A hA hU
  obtain ⟨h1, h2⟩ := List.pairwise_cons.1 hU
  rw [List.foldl_cons, ih _ (yco _ _ _ _ hA) h2]
  show (if p ∈ U then _ else ybh p (yce _ q _ A.1)) = _
  rw [yty hA]
  by_cases e : p = q
  ·subst e
   have : ¬ p ∈ U := fun h => by have := h1 p h; rw [ycc] at this; cases this
   rw [if_neg this, if_pos rfl, if_pos (List.mem_cons_self ..)]
  ·rw [if_neg e]
   by_cases h : p ∈ U
   ·rw [if_pos h, if_pos (List.mem_cons_of_mem _ h)]
   ·rw [if_neg h, if_neg (by rw [List.mem_cons]; rintro (q | q); exact e q; exact h q)]
end
end Go.Proofs.K

namespace Go.Proofs.K
open Go.RowKit Go.Sim
open Classical
variable {S : List RS} {r : Nat}
theorem ywz (cm : Nat → Int) (R : Rec) : (kept cm R = some R) ∨ (kept cm R = none ∧ ¬ 0 < R.bn) := by
 unfold kept
 split
 ·exact .inl rfl
 ·next h =>
  simp only [Bool.or_eq_true, decide_eq_true_eq, not_or] at h
  exact .inr ⟨rfl, h.1⟩
def CS (S : List RS) (i : Nat) : Int := (S.getD i rs0).cm i
theorem ydv (h : r < S.length) (x : RS) : (S.set r x).getD r rs0 = x := by
 rw [List.getD_eq_getElem?_getD, List.getElem?_set_self h]
 rfl
theorem yfw {i : Nat} (h : r ≠ i) (x : RS) : (S.set r x).getD i rs0 = S.getD i rs0 := by
 rw [List.getD_eq_getElem?_getD, List.getElem?_set_ne h, ← List.getD_eq_getElem?_getD]
end Go.Proofs.K

namespace Go.Proofs.K
open Go.RowKit Go.Sim
open Classical
variable {i n r : Nat} {C C' k : Nat → Int} {R f t : Rec} {s : RS} {S : List RS} {B x : Int} {p : ByteArray}
structure Vr (n : Nat) (C : Nat → Int) (R : Rec) : Prop where
 kn0 : ∀ i, 0 ≤ R.kn i
 knC : ∀ i, R.kn i ≤ C i
 ch0 : ∀ i, 0 ≤ R.ch i
 chK : ∀ i, R.ch i ≤ R.kn i
 bn0 : 0 ≤ R.bn
 br : ∃ b : Nat, b < n ∧ R.br = b ∧ R.bn ≤ R.ch b
 none : ¬ 0 < R.bn → R.text = ⟨#[]⟩ ∧ R.br = 0 ∧ R.ch = fun _ => 0
 txt : R.text.size ≤ 60
theorem Vr.mono (h : Vr n C R) (hC : ∀ i, C i ≤ C' i) : Vr n C' R :=
 ⟨h.kn0, fun i => Int.le_trans (h.knC i) (hC i), h.ch0, h.chK, h.bn0, h.br, h.none, h.txt⟩
theorem Vr.know (h : Vr n C R) (k : Nat → Int) (hk : ∀ i, R.kn i ≤ k i) (hC : ∀ i, k i ≤ C' i) : Vr n C' ⟨R.text, R.br, R.bn, R.ch, k⟩ :=
 ⟨fun i => Int.le_trans (h.kn0 i) (hk i), hC, h.ch0, fun i => Int.le_trans (h.chK i) (hk i), h.bn0, h.br, h.none, h.txt⟩
theorem Vr.empty (hn : 0 < n) (h0 : ∀ i, 0 ≤ k i) (hC : ∀ i, k i ≤ C i) : Vr n C ⟨⟨#[]⟩, 0, 0, fun _ => 0, k⟩ :=
 ⟨h0, hC, fun _ => Int.le_refl _, h0, Int.le_refl _, ⟨0, hn, rfl, Int.le_refl _⟩, fun _ => ⟨rfl, rfl, rfl⟩, Nat.zero_le _⟩
structure Vs (n : Nat) (C : Nat → Int) (j : Nat) (s : RS) : Prop where
 cm0 : ∀ i, 0 ≤ s.cm i
 cmC : ∀ i, s.cm i ≤ C i
 own : s.cm j = C j
 vw : ∀ p, Vr n C (ybk j s.cm (ybh p s.E))
 kp : ∀ p R, ybh p s.E = some R → 0 < R.bn ∨ eqT (upT R.kn j (s.cm j)) s.cm = false
theorem Vs.mono {j : Nat} (h : Vs n C j s) (hC : ∀ i, C i ≤ C' i) (hj : C' j = C j) : Vs n C' j s :=
 ⟨h.cm0, fun i => Int.le_trans (h.cmC i) (hC i), h.own.trans hj.symm, fun p => (h.vw p).mono hC, h.kp⟩
def VS (S : List RS) : Prop := ∀ j, j < S.length → Vs S.length (CS S) j (S.getD j rs0)
theorem yoq (h : S.length ≤ i) : CS S i = 0 := by
 unfold CS
 rw [List.getD_eq_getElem?_getD, List.getElem?_eq_none h]
 rfl
theorem yrq (hr : r < S.length) (x : RS) (i : Nat) : CS (S.set r x) i = if i = r then x.cm r else CS S i := by
 unfold CS
 by_cases e : i = r
 ·subst e
  rw [if_pos rfl, ydv hr]
 ·rw [if_neg e, yfw (fun q => e q.symm)]
theorem VS.set (h : VS S) (hr : r < S.length) {x : RS} (hc : (S.getD r rs0).cm r ≤ x.cm r) (hx : Vs S.length (CS (S.set r x)) r x) : VS (S.set r x) := by
 intro j hj
 rw [List.length_set] at hj ⊢
 by_cases e : r = j
 ·subst e
  rw [ydv hr]
  exact hx
 ·rw [yfw e]
  refine (h j hj).mono (fun i => ?_) ?_
  ·rw [yrq hr]
   split
   ·next e => subst e; exact hc
   ·exact Int.le_refl _
  ·rw [yrq hr, if_neg (fun q => e q.symm)]
theorem ymg {s : Nat} (h : k s = x) : upT k s x = k := by
 funext j
 unfold upT
 split
 ·next e => rw [e, h]
 ·rfl
theorem Vs.keep (hn : 0 < n) (h : Vs n C r s) (hE : yav s.E) {cm' : Nat → Int} (he : ∀ i, i ≠ r → cm' i = s.cm i) (hr : s.cm r ≤ cm' r) (hC : ∀ i, C i ≤ C' i) (hC' : cm' r = C' r) (hR : Vr n C' R) (hk : R.kn r = cm' r) :
  Vs n C' r ⟨cm', yce cm' p R s.E⟩ := by
 have h0 : ∀ i, 0 ≤ cm' i := fun i => by
  by_cases e : i = r
  ·subst e; exact Int.le_trans (h.cm0 i) hr
  ·rw [he i e]; exact h.cm0 i
 have h1 : ∀ i, cm' i ≤ C' i := fun i => by
  by_cases e : i = r
  ·subst e; omega
  ·rw [he i e]; exact Int.le_trans (h.cmC i) (hC i)
 refine ⟨h0, h1, hC', fun q => ?_, fun q R' hq => ?_⟩
 ·show Vr n C' (ybk r cm' (ybh q (yce cm' p R s.E)))
  rw [yty hE]
  by_cases e : q = p
  ·rw [if_pos e]
   rcases ywz cm' R with k | ⟨k, _⟩
   ·rw [k]
    show Vr n C' ⟨R.text, R.br, R.bn, R.ch, upT R.kn r (cm' r)⟩
    rw [ymg hk]
    exact hR
   ·rw [k]
    exact Vr.empty hn h0 h1
  ·rw [if_neg e]
   have hq := h.vw q
   cases hg : ybh q s.E with
   |none => exact Vr.empty hn h0 h1
   |some R' =>
    rw [hg] at hq
    refine Vr.know (R := ⟨R'.text, R'.br, R'.bn, R'.ch, upT R'.kn r (s.cm r)⟩) hq (upT R'.kn r (cm' r)) (fun i => ?_) (fun i => ?_)
    ·show upT R'.kn r (s.cm r) i ≤ upT R'.kn r (cm' r) i
     unfold upT
     split
     ·exact hr
     ·exact Int.le_refl _
    ·have := hq.knC i
     change upT R'.kn r (s.cm r) i ≤ C i at this
     unfold upT at this ⊢
     split
     ·next e => subst e; exact h1 i
     ·next e => rw [if_neg e] at this; exact Int.le_trans this (hC i)
 ·change ybh q (yce cm' p R s.E) = some R' at hq
  rw [yty hE] at hq
  by_cases e : q = p
  ·rw [if_pos e] at hq
   unfold kept at hq
   split at hq
   ·next hm =>
    cases hq
    show _ ∨ eqT (upT R.kn r (cm' r)) cm' = false
    rw [ymg hk]
    simpa using hm
   ·cases hq
  ·rw [if_neg e] at hq
   rcases h.kp q R' hq with q1 | q1
   ·exact .inl q1
   ·right
    show eqT (upT R'.kn r (cm' r)) cm' = false
    have key : ∀ i, (upT R'.kn r (cm' r) i == cm' i) = (upT R'.kn r (s.cm r) i == s.cm i) := fun i => by
     unfold upT
     by_cases e : i = r
     ·subst e; simp
     ·rw [if_neg e, if_neg e, he i e]
    unfold eqT at q1 ⊢
    simp only [key]
    exact q1
theorem nxG_ne {s : Nat} {cm : Nat → Int} (hs : s < 6) (h0 : ∀ i, 0 ≤ cm i) (h : i ≠ s) : nxG s cm i = cm i := by
 unfold nxG
 rw [ylm (h0 i), tf_eq _ _ _ hs, if_neg h]
 have := h0 i
 omega
theorem yuh (hr : r < 6) (h0 : ∀ i, 0 ≤ k i) (hx : k r ≤ x) (i : Nat) : yac k (tf r x) i = if i = r then x else k i := by
 rw [ylm (h0 i), tf_eq _ _ _ hr]
 have := h0 i
 split
 ·next e => subst e; omega
 ·omega
theorem VS.next (h6 : S.length ≤ 6) (h : VS S) (hW : Wf B S) (hr : r < S.length) 
  (hR : ∀ C', (∀ i, CS S i ≤ C' i) → C' r = (S.getD r rs0).cm r + 1 → Vr S.length C' R) (hk : R.kn r = (S.getD r rs0).cm r + 1) :
  VS (S.set r ⟨nxG r (S.getD r rs0).cm, yce (nxG r (S.getD r rs0).cm) p R (S.getD r rs0).E⟩) := by
 have hs := h r hr
 have hn := yoh r (by omega) (S.getD r rs0).cm (hs.cm0 r)
 refine h.set hr (by show _ ≤ nxG r _ r; rw [hn]; omega) ?_
 have hC : ∀ i, CS S i ≤ CS (S.set r ⟨nxG r (S.getD r rs0).cm, yce (nxG r (S.getD r rs0).cm) p R (S.getD r rs0).E⟩) i := fun i => by
  rw [yrq hr]
  split
  ·next e =>
   subst e
   show (S.getD i rs0).cm i ≤ nxG i _ i
   rw [hn]; omega
  ·exact Int.le_refl _
 have hCr : CS (S.set r ⟨nxG r (S.getD r rs0).cm, yce (nxG r (S.getD r rs0).cm) p R (S.getD r rs0).E⟩) r = nxG r (S.getD r rs0).cm r := by rw [yrq hr, if_pos rfl]
 exact hs.keep (by omega) (hW.at (ybo hr)).ris (fun i hi => nxG_ne (by omega) hs.cm0 hi) (by rw [hn]; omega) hC hCr.symm (hR _ hC (hCr.trans hn)) (hk.trans hn.symm)
theorem yka (s : Nat) (cm : Nat → Int) (o : Option Rec) : (ybk s cm o).kn s = cm s := by
 cases o with
 |none => rfl
 |some R => show upT R.kn s (cm s) s = _; unfold upT; rw [if_pos rfl]
theorem vs_write (h6 : S.length ≤ 6) (h : VS S) (hW : Wf B S) (hr : r < S.length) (p t : ByteArray) (ht : t.size ≤ 60) : VS (S.set r (wrR r (S.getD r rs0) p t).2) := by
 unfold wrR
 split
 ·rw [yii (ybo hr)]; exact h
 ·have hs := h r hr
  have hv := hs.vw p
  have ho := yka r (S.getD r rs0).cm (ybh p (S.getD r rs0).E)
  generalize ybk r (S.getD r rs0).cm (ybh p (S.getD r rs0).E) = R0 at *
  have hx : R0.kn r ≤ (S.getD r rs0).cm r + 1 := by omega
  have hkn := yuh (by omega : r < 6) hv.kn0 hx
  have hchr : R0.ch r ≤ (S.getD r rs0).cm r + 1 := by have := hv.chK r; omega
  have hch := yuh (by omega : r < 6) hv.ch0 hchr
  refine h.next h6 hW hr (fun C' hC hCr => ?_) ?_
  ·have c0 := hs.cm0 r
   refine ⟨fun i => ?_, fun i => ?_, fun i => ?_, fun i => ?_, ?_, ?_, fun hb => ?_, ht⟩
   ·show 0 ≤ yac R0.kn _ i
    exact (ycd _ _ i).1
   ·show yac R0.kn _ i ≤ C' i
    rw [hkn]
    split
    ·next e => subst e; omega
    ·exact Int.le_trans (hv.knC i) (hC i)
   ·show 0 ≤ yac R0.ch _ i
    exact (ycd _ _ i).1
   ·show yac R0.ch _ i ≤ yac R0.kn _ i
    rw [hkn, hch]
    split
    ·exact Int.le_refl _
    ·exact hv.chK i
   ·show 0 ≤ if 0 < R0.bn then R0.bn else (S.getD r rs0).cm r + 1
    split <;> omega
   ·show ∃ b : Nat, b < S.length ∧ (if 0 < R0.bn then R0.br else (r : Int)) = b ∧ (if 0 < R0.bn then R0.bn else (S.getD r rs0).cm r + 1) ≤ yac R0.ch _ b
    by_cases hb : 0 < R0.bn
    ·obtain ⟨b, b1, b2, b3⟩ := hv.br
     refine ⟨b, b1, by rw [if_pos hb]; exact b2, ?_⟩
     rw [if_pos hb]
     exact Int.le_trans b3 (ycd _ _ b).2.1
    ·refine ⟨r, hr, by rw [if_neg hb], ?_⟩
     rw [if_neg hb, hch, if_pos rfl]
     exact Int.le_refl _
   ·exfalso
    apply hb
    show 0 < if 0 < R0.bn then R0.bn else (S.getD r rs0).cm r + 1
    split <;> omega
  ·show yac R0.kn _ r = _
   rw [hkn, if_pos rfl]
theorem vs_remove (h6 : S.length ≤ 6) (h : VS S) (hW : Wf B S) (hr : r < S.length) (p : ByteArray) : VS (S.set r (rmR r (S.getD r rs0) p).2) := by
 unfold rmR
 split
 ·rw [yii (ybo hr)]; exact h
 ·split
  ·rw [yii (ybo hr)]; exact h
  ·have hs := h r hr
   have hv := hs.vw p
   have ho := yka r (S.getD r rs0).cm (ybh p (S.getD r rs0).E)
   generalize ybk r (S.getD r rs0).cm (ybh p (S.getD r rs0).E) = R0 at *
   have hkn := yuh (by omega : r < 6) hv.kn0 (x := (S.getD r rs0).cm r + 1) (by omega)
   refine h.next h6 hW hr (fun C' hC hCr => ?_) ?_
   ·refine Vr.empty (by omega) (fun i => (ycd _ _ i).1) (fun i => ?_)
    rw [hkn]
    split
    ·next e => subst e; omega
    ·exact Int.le_trans (hv.knC i) (hC i)
   ·show yac R0.kn _ r = _
    rw [hkn, if_pos rfl]
theorem Vr.pull (hn : 0 < n) (ht : Vr n C t) (hf : Vr n C f) : Vr n C (ydk t f).1 := by
 have g0 : ∀ i, t.kn i ≤ yac t.kn f.kn i := fun i => (ycd _ _ i).2.1
 have g1 : ∀ i, f.kn i ≤ yac t.kn f.kn i := fun i => (ycd _ _ i).2.2
 have gC : ∀ i, yac t.kn f.kn i ≤ C i := fun i => yjv (Int.le_trans (ht.kn0 i) (ht.knC i)) (ht.knC i) (hf.knC i)
 unfold ydk
 (repeat' split)
 ·exact ht
 ·exact ht
 ·exact hf.know _ g1 gC
 ·exact Vr.empty hn (fun i => (ycd _ _ i).1) gC
 ·exact ht.know _ g0 gC
theorem yvb (ht : Vr n C t) (hf : Vr n C f) (h : t.kn r = C r) : (ydk t f).1.kn r = C r := by
 have e : yac t.kn f.kn r = C r := by
  have := yjv (Int.le_trans (ht.kn0 r) (ht.knC r)) (ht.knC r) (hf.knC r)
  have := (ycd t.kn f.kn r).2.1
  omega
 unfold ydk
 (repeat' split)
 ·exact h
 ·exact h
 ·exact e
 ·exact e
 ·exact e
theorem vs_path (h : VS S) (hW : Wf B S) {f : Nat} (hr : r < S.length) (hf : f < S.length) (p : ByteArray) : VS (S.set r (ppR r (S.getD r rs0) f (S.getD f rs0) p).2.2) := by
 unfold ppR
 split
 ·rw [yii (ybo hr)]; exact h
 ·have hs := h r hr
  have hv := hs.vw p
  have hw := (h f hf).vw p
  have ho := yka r (S.getD r rs0).cm (ybh p (S.getD r rs0).E)
  refine h.set hr (Int.le_refl _) ?_
  have hC : ∀ i, CS S i = CS (S.set r ⟨(S.getD r rs0).cm, yce (S.getD r rs0).cm p (ydk (ybk r (S.getD r rs0).cm (ybh p (S.getD r rs0).E)) (ybk f (S.getD f rs0).cm (ybh p (S.getD f rs0).E))).1 (S.getD r rs0).E⟩) i := fun i => by
   rw [yrq hr]
   split
   ·next e => subst e; rfl
   ·rfl
  refine hs.keep (by omega) (hW.at (ybo hr)).ris (fun _ _ => rfl) (Int.le_refl _) (fun i => Int.le_of_eq (hC i)) (hC r) ((hv.pull (by omega) hw).mono fun i => Int.le_of_eq (hC i)) ?_
  exact (yvb hv hw (ho.trans hs.own)).trans hs.own.symm
end Go.Proofs.K

namespace Go.Proofs.K
open Go.RowKit Go.Sim
open Classical
variable {B : Int} {S : List RS} {f r : Nat}
theorem rising_keys {E : yau} (h : yav E) : ycz (E.map (·.1)) := by
 unfold ycz
 rw [List.pairwise_map]
 exact h
theorem get_pull {x y : RS} (hx : Wf1 B x) (hy : Wf1 B y) (h0 : 0 ≤ B) (r f : Nat) (p : ByteArray) :
  ybh p (plR r x f y).2.1.E = if p ∈ ydy (x.E.map (·.1)) (y.E.map (·.1)) then kept (yac x.cm y.cm) (ydk (ybk r x.cm (ybh p x.E)) (ybk f y.cm (ybh p y.E))).1 else none := by
 rw [(pl_wf hx hy h0).2.2.2]
 obtain ⟨u1, _⟩ := yhn (y.E.map (·.1)) _ (rising_keys hx.ris)
 exact get_fold (s := r) (cm := x.cm) (E := x.E) (s' := f) (cm' := y.cm) (E' := y.E) p _ ([], []) List.Pairwise.nil u1
theorem vs_pull (h : VS S) (h0 : 0 ≤ B) (hW : Wf B S) (hr : r < S.length) (hf : f < S.length) : VS (S.set r (plR r (S.getD r rs0) f (S.getD f rs0)).2.1) := by
 have wx := hW.at (ybo hr)
 have wy := hW.at (ybo hf)
 have hs := h r hr
 have ht := h f hf
 have hg := get_pull wx wy h0 r f
 have hcm : (plR r (S.getD r rs0) f (S.getD f rs0)).2.1.cm = yac (S.getD r rs0).cm (S.getD f rs0).cm := by rw [(pl_wf wx wy h0).2.2.2]
 have c0 : ∀ i, 0 ≤ yac (S.getD r rs0).cm (S.getD f rs0).cm i := fun i => (ycd _ _ i).1
 have cC : ∀ i, yac (S.getD r rs0).cm (S.getD f rs0).cm i ≤ CS S i := fun i => yjv (Int.le_trans (hs.cm0 i) (hs.cmC i)) (hs.cmC i) (ht.cmC i)
 have cr : yac (S.getD r rs0).cm (S.getD f rs0).cm r = CS S r := by
  have := cC r
  have := (ycd (S.getD r rs0).cm (S.getD f rs0).cm r).2.1
  have := hs.own
  omega
 generalize hX : (plR r (S.getD r rs0) f (S.getD f rs0)).2.1 = X at *
 refine h.set hr (by rw [hcm]; exact (ycd _ _ _).2.1) ?_
 have hC : ∀ i, CS (S.set r X) i = CS S i := fun i => by
  rw [yrq hr]
  split
  ·next e => subst e; rw [hcm]; exact cr
  ·rfl
 have key : Vs S.length (CS S) r X := by
  refine ⟨fun i => by rw [hcm]; exact c0 i, fun i => by rw [hcm]; exact cC i, by rw [hcm]; exact cr, fun p => ?_, fun p R hp => ?_⟩
  ·rw [hg p, hcm]
   split
   ·have hv := (hs.vw p).pull (by omega) (ht.vw p)
    have ho := yvb (hs.vw p) (ht.vw p) ((yka r (S.getD r rs0).cm (ybh p (S.getD r rs0).E)).trans hs.own)
    generalize (ydk (ybk r (S.getD r rs0).cm (ybh p (S.getD r rs0).E)) (ybk f (S.getD f rs0).cm (ybh p (S.getD f rs0).E))).1 = R at *
    rcases ywz (yac (S.getD r rs0).cm (S.getD f rs0).cm) R with k | ⟨k, _⟩
    ·rw [k]
     show Vr S.length (CS S) ⟨R.text, R.br, R.bn, R.ch, upT R.kn r _⟩
     rw [ymg (ho.trans cr.symm)]
     exact hv
    ·rw [k]
     exact Vr.empty (by omega) c0 cC
   ·exact Vr.empty (by omega) c0 cC
  ·rw [hg p] at hp
   split at hp
   ·have ho := yvb (hs.vw p) (ht.vw p) ((yka r (S.getD r rs0).cm (ybh p (S.getD r rs0).E)).trans hs.own)
    generalize (ydk (ybk r (S.getD r rs0).cm (ybh p (S.getD r rs0).E)) (ybk f (S.getD f rs0).cm (ybh p (S.getD f rs0).E))).1 = R' at *
    unfold kept at hp
    split at hp
    ·next hm =>
     cases hp
     rw [hcm, ymg (ho.trans cr.symm)]
     simpa using hm
    ·cases hp
   ·cases hp
 exact key.mono (fun i => Int.le_of_eq (hC i).symm) (hC r)
theorem vs_resolve (h6 : S.length ≤ 6) (h : VS S) (hW : Wf B S) (hr : r < S.length) (hf : f < S.length) (p : ByteArray) (th : Bool) : VS (S.set r (rsR r (S.getD r rs0) f (S.getD f rs0) p th).2) := by
 unfold rsR rsRec
 split
 ·rw [yii (ybo hr)]; exact h
 ·split
  ·rw [yii (ybo hr)]; exact h
  ·have hs := h r hr
   have hv := hs.vw p
   have hw := (h f hf).vw p
   have ho := yka r (S.getD r rs0).cm (ybh p (S.getD r rs0).E)
   have c0 := hs.cm0 r
   have hwr : (ybk f (S.getD f rs0).cm (ybh p (S.getD f rs0).E)).kn r ≤ (S.getD r rs0).cm r := by rw [hs.own]; exact hw.knC r
   generalize ybk r (S.getD r rs0).cm (ybh p (S.getD r rs0).E) = Ra at *
   generalize ybk f (S.getD f rs0).cm (ybh p (S.getD f rs0).E) = Ro at *
   have ekn : ∀ i, (yki r ((S.getD r rs0).cm r + 1) Ra Ro (yay th Ra Ro)).kn i = yac Ra.kn (yac Ro.kn (tf r ((S.getD r rs0).cm r + 1))) i := by
    intro i
    show yac (settled r ((S.getD r rs0).cm r + 1) Ra Ro (yay th Ra Ro)).kn _ i = _
    have : (settled r ((S.getD r rs0).cm r + 1) Ra Ro (yay th Ra Ro)).kn = Ra.kn := by
     unfold settled
     split <;> cases th <;> rfl
    rw [this]
   have hin := yuh (by omega : r < 6) hw.kn0 (x := (S.getD r rs0).cm r + 1) (by omega)
   have hkn : ∀ i, yac Ra.kn (yac Ro.kn (tf r ((S.getD r rs0).cm r + 1))) i = if i = r then (S.getD r rs0).cm r + 1 else max (Ra.kn i) (Ro.kn i) := fun i => by
    rw [ylm (hv.kn0 i), hin]
    split
    ·next e => subst e; omega
    ·rfl
   refine h.next h6 hW hr (fun C' hC hCr => ?_) (by rw [ekn, hkn, if_pos rfl])
   have kC : ∀ i, yac Ra.kn (yac Ro.kn (tf r ((S.getD r rs0).cm r + 1))) i ≤ C' i := fun i => by
    rw [hkn]
    split
    ·next e => subst e; omega
    ·have := hv.knC i; have := hw.knC i; have := hC i; omega
   have kA : ∀ i, Ra.kn i ≤ yac Ra.kn (yac Ro.kn (tf r ((S.getD r rs0).cm r + 1))) i := fun i => (ycd _ _ i).2.1
   have kO : ∀ i, Ro.kn i ≤ yac Ra.kn (yac Ro.kn (tf r ((S.getD r rs0).cm r + 1))) i := fun i => Int.le_trans (ycd _ _ i).2.1 (ycd _ _ i).2.2
   have eE : yki r ((S.getD r rs0).cm r + 1) Ra Ro (yay th Ra Ro) = ⟨(settled r ((S.getD r rs0).cm r + 1) Ra Ro (yay th Ra Ro)).text, (settled r ((S.getD r rs0).cm r + 1) Ra Ro (yay th Ra Ro)).br, (settled r ((S.getD r rs0).cm r + 1) Ra Ro (yay th Ra Ro)).bn, (settled r ((S.getD r rs0).cm r + 1) Ra Ro (yay th Ra Ro)).ch, yac Ra.kn (yac Ro.kn (tf r ((S.getD r rs0).cm r + 1)))⟩ := by
    have := funext ekn
    show (⟨_, _, _, _, _⟩ : Rec) = _
    rw [← this]
    rfl
   rw [eE]
   by_cases hb : 0 < (yay th Ra Ro).bn
   ·have es : settled r ((S.getD r rs0).cm r + 1) Ra Ro (yay th Ra Ro) = ⟨(yay th Ra Ro).text, r, (S.getD r rs0).cm r + 1, g3 Ra.ch Ro.ch (tf r ((S.getD r rs0).cm r + 1)), (yay th Ra Ro).kn⟩ := by
     unfold settled
     rw [if_pos (by simpa using hb)]
    rw [es]
    have hch : ∀ i, g3 Ra.ch Ro.ch (tf r ((S.getD r rs0).cm r + 1)) i = if i = r then (S.getD r rs0).cm r + 1 else max (Ra.ch i) (Ro.ch i) := fun i => by
     unfold g3
     rw [ylm (hv.ch0 i), tf_eq _ _ _ (by omega)]
     have := hv.ch0 i
     by_cases e : i = r
     ·subst e
      rw [if_pos rfl]
      have := hv.chK i
      have := hw.chK i
      split <;> omega
     ·rw [if_neg e, if_neg e]
      split <;> omega
    refine ⟨fun i => ?_, kC, fun i => ?_, fun i => ?_, ?_, ⟨r, hr, rfl, ?_⟩, fun q => ?_, ?_⟩
    ·exact Int.le_trans (hv.kn0 i) (kA i)
    ·show 0 ≤ g3 _ _ _ i
     rw [hch]
     have := hv.ch0 i
     split <;> omega
    ·show g3 _ _ _ i ≤ yac Ra.kn _ i
     rw [hch, hkn]
     have := hv.chK i
     have := hw.chK i
     split <;> omega
    ·show (0 : Int) ≤ (S.getD r rs0).cm r + 1
     omega
    ·show _ ≤ g3 _ _ _ r
     rw [hch, if_pos rfl]
     exact Int.le_refl _
    ·exfalso
     apply q
     show (0 : Int) < (S.getD r rs0).cm r + 1
     omega
    ·cases th with
     |true => exact hw.txt
     |false => exact hv.txt
   ·have es : settled r ((S.getD r rs0).cm r + 1) Ra Ro (yay th Ra Ro) = yay th Ra Ro := by
     unfold settled
     rw [if_neg (by simpa using hb)]
    rw [es]
    cases th with
    |true => exact hw.know _ kO kC
    |false => exact hv.know _ kA kC
end Go.Proofs.K
