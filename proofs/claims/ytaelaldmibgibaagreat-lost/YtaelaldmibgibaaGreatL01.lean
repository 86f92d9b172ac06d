/- The twin: a pull of all. Scripts of the statements that do not ask the document's answer: what a step does to the states (pure). A pull of all, path by path (pure): what it leaves, what it tells. A net that copies a file: what begun answers (pure). A net that copies a file: begun. -/
import Derived.Test.YtaelaldmibgibaaGreatP50
import Derived.Test.YtaelaldmibgibaaGreatP41
import Derived.Test.YtaelaldmibgibaaGreatP42
import Derived.Test.YtaelaldmibgibaaGreatP17

set_option linter.unusedVariables false
set_option linter.unusedSimpArgs false
set_option linter.unusedSectionVars false

namespace Go.Proofs.YtaelaldmibgibaaGreat
open Go.RowKit Go.Sim

/-- a pull of all: the answer, the state behind it, the changes -/
def plR (s : Nat) (x : RS) (s' : Nat) (y : RS) : Int × RS × List (ByteArray × Int) :=
  if 20 < (thereE (allP s x.cm x.E s' y.cm y.E).1).length then (5, x, []) else (0, ⟨gboth x.cm y.cm, (allP s x.cm x.E s' y.cm y.E).1⟩, (allP s x.cm x.E s' y.cm y.E).2)
theorem chv_one (s : Nat) (l : List (ByteArray × Int)) : ∀ u ∈ chv s l, u.oneCell' = true := by
  intro u hu
  unfold chv at hu
  obtain ⟨l', hl, hu⟩ := List.mem_flatten.1 hu
  obtain ⟨x, _, rfl⟩ := List.mem_map.1 hl
  simp at hu
  rcases hu with rfl | rfl | rfl <;> rfl
theorem nodup_set {l : List Nat} (h : l.Nodup) {a x : Nat} (hx : x ∉ l) : (l.set a x).Nodup := by
  apply nodup_of
  intro i j v hi hj
  rw [List.getElem?_set] at hi hj
  split at hi
  · next e1 =>
    split at hj
    · next e2 => omega
    · split at hi
      · cases hi
        exact absurd (List.mem_of_getElem? hj) hx
      · cases hi
  · split at hj
    · split at hj
      · cases hj
        exact absurd (List.mem_of_getElem? hi) hx
      · cases hj
    · rcases Nat.decEq i j with q | q
      · exact absurd rfl (getElem_ne h hi hj q)
      · exact q
theorem set_self {S : List RS} {a : Nat} {x : RS} (h : S[a]? = some x) : S.set a x = S := by
  apply List.ext_getElem?
  intro i
  rw [List.getElem?_set]
  split
  · next e =>
    subst e
    rw [if_pos (List.getElem?_eq_some_iff.1 h).1, h]
  · rfl
theorem mem_set_or {l : List Nat} {a x k : Nat} (h : k ∈ l.set a x) : k = x ∨ k ∈ l := by
  rcases List.mem_or_eq_of_mem_set h with q | q
  · exact .inr q
  · exact .inl q
/-- a replica is put in its place -/
theorem Nt.put {w : World} {nb pb : Nat} {L : List (Nat × Nat)} {S : List RS} (h : Nt w nb pb L S) {a : Nat} {u : Nat × Nat} (hu : L[a]? = some u) {B ab am : Nat} {s' : RS} (hr : Rg w ab a s'.cm am s'.E) (hab : ab ≠ am) (h1 : nb < B) (h2 : pb < B) (h3 : ∀ x ∈ L, x.1 < B ∧ x.2 < B) (h4 : B ≤ ab) (h5 : B ≤ am) :
    Nt (w.setCell ⟨pb, a, none⟩ (.pointer (some ⟨ab, 0, none⟩))) nb pb (L.set a (ab, am)) (S.set a s') := by
  have hf : Fr (fun k => k = pb) w (w.setCell ⟨pb, a, none⟩ (.pointer (some ⟨ab, 0, none⟩))) := (Fr.refl (fun k => k = pb) w).setCell (p := ⟨pb, a, none⟩) (.inl rfl) _
  have hap := h.apart
  have hnp : nb ≠ pb := by
    simp only [List.nodup_cons, List.mem_cons, not_or] at hap
    exact hap.1.1
  obtain ⟨cur, hcur⟩ := h.pbk
  have hal : a < L.length := (List.getElem?_eq_some_iff.1 hu).1
  refine ⟨?_, fun i x s hi hs => ?_, Nat.lt_of_lt_of_le h.nlt hf.size, Nat.lt_of_lt_of_le h.plt hf.size, ?_, ⟨_, heap_setCell_same _ _ _ _ _ _ hcur⟩⟩
  · rw [List.length_set]
    obtain ⟨cap, hc⟩ := h.net.blk
    refine ⟨⟨cap, by rw [hf.block nb h.nlt hnp]; exact hc⟩, by rw [List.length_map, List.length_set]; have := h.net.len; simpa using this, fun r b hb => ?_, h.net.n6⟩
    rw [List.getElem?_map, List.getElem?_set] at hb
    have old : ∀ r b, (L.map (·.1))[r]? = some b → cur[r]? = some (Value.pointer (some ⟨b, 0, none⟩)) := fun r b hb => by
      have := h.net.row r b hb
      simpa [World.cell?, hcur] using this
    have hsz : a < cur.size := by
      have := old a u.1 (by rw [List.getElem?_map, hu]; rfl)
      exact (Array.getElem?_eq_some_iff.1 this).1
    simp only [World.cell?, heap_setCell_same _ _ _ _ _ _ hcur]
    split at hb
    · next e =>
      subst e
      simp at hb
      subst hb
      simp [hsz]
    · next e =>
      have := old r b (by rw [List.getElem?_map]; exact hb)
      simp only [Array.getElem?_setIfInBounds_ne e]
      exact this
  · by_cases e : a = i
    · subst e
      rw [List.getElem?_set_self hal] at hi
      cases hi
      have hsl : a < S.length := by have := h.len; omega
      rw [List.getElem?_set_self hsl] at hs
      cases hs
      exact hr.keep (hf.block _ hr.rep.lt (fun e => by have : ab = pb := e; omega)) (hf.block _ hr.own.lt (fun e => by have : am = pb := e; omega))
    · rw [List.getElem?_set_ne e] at hi hs
      have q := h.rep i x s hi hs
      obtain ⟨n1, n2, n3, n4⟩ := h.ne hi
      exact q.keep (hf.block _ q.rep.lt (fun e => n3 e.symm)) (hf.block _ q.own.lt (fun e => n4 e.symm))
  · have hb1 : ∀ k ∈ L.map (·.1), k < B := fun k hk => by obtain ⟨x, hx, rfl⟩ := List.mem_map.1 hk; exact (h3 x hx).1
    have hb2 : ∀ k ∈ L.map (·.2), k < B := fun k hk => by obtain ⟨x, hx, rfl⟩ := List.mem_map.1 hk; exact (h3 x hx).2
    rw [List.map_set, List.map_set]
    simp only [List.nodup_cons, List.nodup_append, List.mem_cons, List.mem_append, not_or] at hap ⊢
    obtain ⟨⟨a1, a2, a3⟩, ⟨a4, a5⟩, a6, a7, a8⟩ := hap
    refine ⟨⟨a1, fun q => ?_, fun q => ?_⟩, ⟨fun q => ?_, fun q => ?_⟩, nodup_set a6 (fun q => by have := hb1 _ q; omega), nodup_set a7 (fun q => by have := hb2 _ q; omega), fun k hk j hj e => ?_⟩
    · rcases mem_set_or q with e | e
      · omega
      · exact a2 e
    · rcases mem_set_or q with e | e
      · omega
      · exact a3 e
    · rcases mem_set_or q with e | e
      · omega
      · exact a4 e
    · rcases mem_set_or q with e | e
      · omega
      · exact a5 e
    · subst e
      rcases mem_set_or hk with e1 | e1
      · rcases mem_set_or hj with e2 | e2
        · omega
        · have := hb2 _ e2; omega
      · rcases mem_set_or hj with e2 | e2
        · have := hb1 _ e1; omega
        · exact a8 k e1 k e2 rfl
theorem aw_below (V : World) (nb : Nat) (a b : Int) : Below V.heap.size V (atWork V nb a b) := by
  unfold atWork
  refine Below.alloc (Below.alloc (Below.alloc (Below.alloc (Below.alloc (Below.alloc (Below.alloc (Below.alloc (Below.refl _ _) ?_ _) ?_ _) ?_ _) ?_ _) ?_ _) ?_ _) ?_ _) ?_ _ <;> simp <;> omega
theorem aw_size (V : World) (nb : Nat) (a b : Int) : (atWork V nb a b).heap.size = V.heap.size + 8 := by simp [atWork]
theorem aw_fixed {V : World} (h : Fixed V) (nb : Nat) (a b : Int) : Fixed (atWork V nb a b) :=
  Fixed.alloc (Fixed.alloc (Fixed.alloc (Fixed.alloc (Fixed.alloc (Fixed.alloc (Fixed.alloc (Fixed.alloc h _ _) _ _) _ _) _ _) _ _) _ _) _ _) _ _
theorem aw_at (V : World) (nb : Nat) (a b : Int) (k : Nat) : (atWork V nb a b).heap[V.heap.size + k]? = (#[Obj.cells #[.pointer (some ⟨nb, 0, none⟩)] 23, .cells #[.pointer none, .slice none 0 0, .int .i64 0] 137, .cells #[.slice (some ⟨V.heap.size + 1, 0, none⟩) 1 1] 134, .cells #[] 160, .cells #[.int .i64 0] 3, .cells #[.int .i64 a, .int .i64 b] 100, .cells #[] 172, .cells #[] 1])[k]? := by
  have e : (atWork V nb a b).heap = V.heap ++ #[Obj.cells #[.pointer (some ⟨nb, 0, none⟩)] 23, .cells #[.pointer none, .slice none 0 0, .int .i64 0] 137, .cells #[.slice (some ⟨V.heap.size + 1, 0, none⟩) 1 1] 134, .cells #[] 160, .cells #[.int .i64 0] 3, .cells #[.int .i64 a, .int .i64 b] 100, .cells #[] 172, .cells #[] 1] := by
    unfold atWork World.alloc
    apply Array.toList_inj.1
    simp only [Array.toList_push, Array.toList_append, List.append_assoc, List.cons_append, List.nil_append]
  rw [e, Array.getElem?_append_right (by omega), Nat.add_sub_cancel_left]
theorem aw_cell (V : World) (nb : Nat) (a b : Int) (k : Nat) {cs : Array Value} {ty : TypeId} (h : (#[Obj.cells #[.pointer (some ⟨nb, 0, none⟩)] 23, .cells #[.pointer none, .slice none 0 0, .int .i64 0] 137, .cells #[.slice (some ⟨V.heap.size + 1, 0, none⟩) 1 1] 134, .cells #[] 160, .cells #[.int .i64 0] 3, .cells #[.int .i64 a, .int .i64 b] 100, .cells #[] 172, .cells #[] 1] : Array Obj)[k]? = some (.cells cs ty)) (o : Nat) : (atWork V nb a b).cell? ⟨V.heap.size + k, o, none⟩ = cs[o]? := by
  simp [World.cell?, aw_at, h]
/-- how it stands behind pullsOf -/
def P3s (W0 : World) (nb a b : Nat) (cm : Nat → Int) (A : Recs × List (ByteArray × Int)) (gb : Nat) (V' : World) : Prop :=
  ∃ V, Below W0.heap.size W0 V ∧ gb = V.heap.size + 1 ∧ PullLeft (atWork V nb a b) V' gb a cm A ∧ Fr (fun k => k = gb) (atWork V nb a b) V'
theorem P3s.below {W0 : World} {nb a b : Nat} {cm : Nat → Int} {A : Recs × List (ByteArray × Int)} {gb : Nat} {V' : World} (h : P3s W0 nb a b cm A gb V') : Below W0.heap.size W0 V' := by
  obtain ⟨V, h1, rfl, _, hf⟩ := h
  have h2 := h1.trans ((aw_below V nb a b).mono h1.size)
  have hs := h1.size
  exact ⟨hf.os.trans h2.os, hf.tape.trans h2.tape, hf.output.trans h2.output, Nat.le_trans h2.size hf.size, fun k hk => (hf.block k (by have := h2.size; omega) (by omega)).trans (h2.block k hk)⟩
theorem P3s.size {W0 : World} {nb a b : Nat} {cm : Nat → Int} {A : Recs × List (ByteArray × Int)} {gb : Nat} {V' : World} (h : P3s W0 nb a b cm A gb V') : W0.heap.size ≤ V'.heap.size := h.below.size
set_option maxHeartbeats 1000000 in
theorem npulls {nb pb : Nat} {L : List (Nat × Nat)} {S : List RS} {w : World} (h : Nt w nb pb L S) (hF : Fixed w) (a b : Nat) (hab : a ≠ b) {u v : Nat × Nat} {x y : RS} (hu : L[a]? = some u) (hv : L[b]? = some v) (hx : S[a]? = some x) (hy : S[b]? = some y)
    (hl : x.E.length + y.E.length < 900000) (hk : ∀ e ∈ x.E, e.1.size ≤ 1000000) (hk' : ∀ e ∈ y.E, e.1.size ≤ 1000000) :
    Calls (twin Tryz.prog pl) 22 #[.pointer (some ⟨nb, 0, none⟩), .int .i64 a, .int .i64 b] w fun e w' => ∃ rv r2, e = .returned (.tuple #[rv, r2]) ∧ r2 = .int .i64 (plR a x b y).1 ∧ ∃ L', Nt w' nb pb L' (S.set a (plR a x b y).2.1) ∧ w'.ownsRow w.heap.size 66 3 rv (plR a x b y).2.2.length (chv a (plR a x b y).2.2) ∧ Fr (fun k => k = pb) w w' ∧ ∀ x ∈ L', x ∈ L ∨ (w.heap.size ≤ x.1 ∧ w.heap.size ≤ x.2) := by
  refine qpull nb a b w _ ?_
  have hal : a < S.length := (List.getElem?_eq_some_iff.1 hx).1
  have hbl : b < S.length := (List.getElem?_eq_some_iff.1 hy).1
  have n6 := h.net.n6
  have hok : okP S.length a b = true := by
    unfold okP
    simp only [Bool.and_eq_true, decide_eq_true_eq, Bool.not_eq_true', beq_eq_false_iff_ne]
    omega
  generalize hW : w.alloc (.cells #[.int .i64 (a : Int), .int .i64 (b : Int)] 100) = W0
  have bW : Below w.heap.size w W0 := by rw [← hW]; exact (Below.refl _ _).alloc (Nat.le_refl _) _
  have fW : Fixed W0 := by rw [← hW]; exact Fixed.alloc hF _ _
  have sW : W0.heap.size = w.heap.size + 1 := by rw [← hW]; simp
  have g0 : W0.cell? ⟨w.heap.size, 0, none⟩ = some (.int .i64 a) := by rw [← hW]; simp only [World.cell?, heap_alloc_new]; rfl
  have g1 : W0.cell? ⟨w.heap.size, 1, none⟩ = some (.int .i64 b) := by rw [← hW]; simp only [World.cell?, heap_alloc_new]; rfl
  clear hW
  have cellW : ∀ V, Below W0.heap.size W0 V → V.cell? ⟨w.heap.size, 0, none⟩ = some (.int .i64 a) ∧ V.cell? ⟨w.heap.size, 1, none⟩ = some (.int .i64 b) := fun V hV => ⟨(hV.cell (p := ⟨w.heap.size, 0, none⟩) (by simp only; omega)).trans g0, (hV.cell (p := ⟨w.heap.size, 1, none⟩) (by simp only; omega)).trans g1⟩
  have belW : ∀ V, Below W0.heap.size W0 V → Below w.heap.size w V := fun V hV => bW.trans (hV.mono bW.size)
  have h1 : Calls (twin Tryz.prog pl) 62 #[.pointer (some ⟨nb, 0, none⟩), .slice (some ⟨w.heap.size, 0, none⟩) 1 1] W0 fun e w' => e = .returned (.bool true) ∧ (Below W0.heap.size W0 w' ∧ Fixed w') := by
    have hN := h.below bW
    refine (shared.calls (by decide) fW (arePairs_one nb S.length pb (L.map (·.1)) w.heap.size 1 a b W0 hN.net hN.nlt hN.plt (by omega) g0 g1) (fun e w' h => ⟨_, h.1⟩)).mono ?_
    rintro e w' ⟨⟨rfl, hb⟩, hf⟩
    rw [hok]
    exact ⟨rfl, hb, hf⟩
  have h2 : ∀ V, (Below W0.heap.size W0 V ∧ Fixed V) → Calls (twin Tryz.prog pl) 63 #[.slice (some ⟨w.heap.size, 0, none⟩) 1 1] V fun e w' => e = .returned (.bool true) ∧ (Below W0.heap.size W0 w' ∧ Fixed w') := by
    rintro V ⟨hb, hf⟩
    refine (shared.calls (by decide) hf (areApart_one w.heap.size 1 a b (by omega) (by omega) V (by have := hb.size; omega) (cellW V hb).1 (cellW V hb).2) (fun e w' h => ⟨_, h.1⟩)).mono ?_
    rintro e w' ⟨⟨rfl, hb'⟩, hf'⟩
    exact ⟨rfl, hb.trans (hb'.mono hb.size), hf'⟩
  have h3 : ∀ V, (Below W0.heap.size W0 V ∧ Fixed V) → Calls (twin Tryz.prog pl) 64 #[.pointer (some ⟨nb, 0, none⟩), .slice (some ⟨w.heap.size, 0, none⟩) 1 1] V fun e w' => ∃ gb, e = .returned (.slice (some ⟨gb, 0, none⟩) 1 1) ∧ P3s W0 nb a b (gboth x.cm y.cm) (allP a x.cm x.E b y.cm y.E) gb w' := by
    rintro V ⟨hb, hf⟩
    have hN := (h.below (belW V hb)).below (aw_below V nb a b)
    refine (qpulls_one nb w.heap.size 1 a b V (cellW V hb).1 (cellW V hb).2 (by have := hb.size; omega) (fun w' => P3s W0 nb a b (gboth x.cm y.cm) (allP a x.cm x.E b y.cm y.E) (V.heap.size + 1) w') ?_).mono (fun e w' h => ⟨_, h.1, h.2⟩)
    refine (shared.calls (by decide) (aw_fixed hf nb a b) (work_any V.heap.size (V.heap.size + 5) (V.heap.size + 2) (V.heap.size + 4) (V.heap.size + 1) hN a b hu hv hx hy hl hk hk' (aw_cell V nb a b 0 rfl 0) (aw_cell V nb a b 5 rfl 0) (aw_cell V nb a b 5 rfl 1) (aw_cell V nb a b 2 rfl 0) (aw_cell V nb a b 4 rfl 0) (aw_at V nb a b 1)) (fun e w' h => ⟨_, h.1⟩)).mono ?_
    rintro e w' ⟨⟨rfl, hp, hfr⟩, _⟩
    refine ⟨rfl, ?_, V, hb, rfl, hp, hfr⟩
    rw [World.cell?_of_block (w := atWork V nb a b) (hfr.block (V.heap.size + 2) (by rw [aw_size]; omega) (by omega))]
    exact aw_cell V nb a b 2 rfl 0
  by_cases hfull : 20 < (thereE (allP a x.cm x.E b y.cm y.E).1).length
  · have ep : plR a x b y = (5, x, []) := by unfold plR; rw [if_pos hfull]
    rw [ep]
    refine (qround_full nb w.heap.size 1 W0 h1 h2 h3 (fun gb V hP => ?_)).mono ?_
    · obtain ⟨V0, _, _, hp | hp, _⟩ := hP
      · exact hp.2
      · omega
    · rintro e w' ⟨rfl, gb, V, hP, hb⟩
      have hb' := hP.below
      have hbw := belW w' (hb'.trans (hb.mono hb'.size))
      refine ⟨_, _, rfl, rfl, L, ?_, World.ownsRow_nil _ _ _ _, Fr.of_below hbw, fun x hx => .inl hx⟩
      rw [set_self hx]
      exact h.below hbw
  · have ep : plR a x b y = (0, ⟨gboth x.cm y.cm, (allP a x.cm x.E b y.cm y.E).1⟩, (allP a x.cm x.E b y.cm y.E).2) := by unfold plR; rw [if_neg hfull]
    rw [ep]
    obtain ⟨cap, hc⟩ := h.net.blk
    obtain ⟨cur, hcur⟩ := h.pbk
    have hm : (allP a x.cm x.E b y.cm y.E).2.length ≤ 1000000 := by
      have q1 := (accP_len a x.cm x.E b y.cm y.E (unionK (x.E.map (·.1)) (y.E.map (·.1))) ([], [])).2
      have q2 := union_len (y.E.map (·.1)) (x.E.map (·.1))
      rw [List.length_map, List.length_map] at q2
      show ((unionK (x.E.map (·.1)) (y.E.map (·.1))).foldl (stepA a x.cm x.E b y.cm y.E) ([], [])).2.length ≤ _
      simp only [List.length_nil] at q1
      omega
    have hLB : ∀ x ∈ L, x.1 < w.heap.size ∧ x.2 < w.heap.size := fun z hz => by
      obtain ⟨i, hi⟩ := List.getElem?_of_mem hz
      have hil : i < S.length := by have := (List.getElem?_eq_some_iff.1 hi).1; have := h.len; omega
      have q := h.rep i z _ hi (List.getElem?_eq_getElem hil)
      exact ⟨q.rep.lt, q.own.lt⟩
    refine (qround_ok nb w.heap.size 1 W0 a pb S.length cap (allP a x.cm x.E b y.cm y.E).2.length (chv a (allP a x.cm x.E b y.cm y.E).2) n6 hal h1 h2 h3 (fun gb V hP => ?_)).mono ?_
    · have hbV := belW V hP.below
      have hcl := (cellW V hP.below).1
      have hsz := hP.size
      obtain ⟨V0, hV0, rfl, hp | ⟨hle, ab, am, z, cv, q1, q2, q3, q4, q5, q6, q7, q8, q9⟩, hfr⟩ := hP
      · omega
      · refine ⟨ab, z, cv, q1, q3, chv_one _ _, hm, fun e => q9 (List.length_eq_zero_iff.1 e), ?_, hcl, ⟨_, (h.below hbV).net.row a u.1 (by rw [List.getElem?_map, hu]; rfl)⟩, ?_, Nat.lt_of_lt_of_le h.nlt hbV.size, Nat.lt_of_lt_of_le h.plt hbV.size, by omega⟩
        · rw [hbV.cell (p := ⟨nb, 0, none⟩) h.nlt]
          simp [World.cell?, hc]
        · simp [World.frozen?, hbV.block pb h.plt, hcur]
    · rintro e w' ⟨gb, V, V', ab, z, cv, rv, rfl, hP, hg, hown, hB, hR, rfl⟩
      have hbV := hP.below
      have hbV' := belW V' (hbV.trans (hB.mono hbV.size))
      have hsz := hP.size
      obtain ⟨V0, hV0, rfl, hp | ⟨hle, ab', am, z', cv', q1, q2, q3, q4, q5, q6, q7, q8, q9⟩, hfr⟩ := hP
      · omega
      · rw [hg] at q1
        simp only [Option.some.injEq, Obj.cells.injEq, Array.mk.injEq, List.cons.injEq, Value.pointer.injEq, Addr.mk.injEq, and_true] at q1
        obtain ⟨rfl, rfl⟩ := q1
        have ga := (aw_below V0 nb a b).size
        have g0 := hV0.size
        have hN := h.below hbV'
        have hput := hN.put hu (s' := ⟨gboth x.cm y.cm, (allP a x.cm x.E b y.cm y.E).1⟩) (q2.below hB) q6 h.nlt h.plt hLB (B := w.heap.size) (by omega) (by omega)
        have hfp : Fr (fun k => k = pb) V' (V'.setCell ⟨pb, a, none⟩ (.pointer (some ⟨ab, 0, none⟩))) := (Fr.refl (fun k => k = pb) V').setCell (p := ⟨pb, a, none⟩) (.inl rfl) _
        refine ⟨_, _, rfl, rfl, _, hput, ?_, (Fr.of_below hbV').trans hfp, fun x hx => ?_⟩
        · have hpl := h.plt
          refine ownsRow_base (ownsRow_keep hR (fun k e => hfp.block k (World.ownsRow.lt hR k e).2 (by have := (World.ownsRow.lt hR k e).1; omega))) (fun k e => by have := (World.ownsRow.lt hR k e).1; omega)
        · rcases List.mem_or_eq_of_mem_set hx with q | rfl
          · exact .inl q
          · exact .inr ⟨by simp only; omega, by simp only; omega⟩
theorem mem_stepA {s : Nat} {cm : Nat → Int} {E : Recs} {s' : Nat} {cm' : Nat → Int} {E' : Recs} (U : List ByteArray) : ∀ (A : Recs × List (ByteArray × Int)) x, x ∈ (U.foldl (stepA s cm E s' cm' E') A).1 → x ∈ A.1 ∨ x.1 ∈ U := by
  induction U with
  | nil => intro A x hx; exact .inl hx
  | cons p U ih =>
    intro A x hx
    rcases ih _ x hx with q | q
    · rcases keepE_mem q with rfl | q
      · exact .inr (List.mem_cons_self ..)
      · exact .inl q
    · exact .inr (List.mem_cons_of_mem _ q)
theorem plR_kin {r : Nat} {s : RS} {r' : Nat} {y : RS} (hr : RisingE s.E) (hs : ∀ x ∈ s.E, x.1 ∈ PATHS) (hy : ∀ x ∈ y.E, x.1 ∈ PATHS) : ∀ x ∈ (plR r s r' y).2.1.E, x.1 ∈ PATHS := by
  unfold plR
  split
  · exact hs
  · intro x hx
    rcases mem_stepA _ _ x hx with q | q
    · simp at q
    · have hE : RisingK (s.E.map (·.1)) := by
        unfold RisingK
        rw [List.pairwise_map]
        exact hr
      rcases ((union_spec _ _ hE).2 x.1).1 q with q | q
      · obtain ⟨z, hz, e⟩ := List.mem_map.1 q
        rw [← e]; exact hs z hz
      · obtain ⟨z, hz, e⟩ := List.mem_map.1 q
        rw [← e]; exact hy z hz
theorem ePull {w0 w : World} {nb : Nat} {S : List RS} {K : List Nat} (h : Ne w0 w nb S K) (a b : Nat) (hab : a ≠ b) {x y : RS} (hx : S[a]? = some x) (hy : S[b]? = some y) :
    Calls (twin Tryz.prog pl) 22 #[.pointer (some ⟨nb, 0, none⟩), .int .i64 a, .int .i64 b] w fun e w' => ∃ rv, e = .returned (.tuple #[rv, .int .i64 (plR a x b y).1]) ∧ Ne w0 w' nb (S.set a (plR a x b y).2.1) K ∧ Keeps K w w' ∧ w'.ownsRow w.heap.size 66 3 rv (plR a x b y).2.2.length (chv a (plR a x b y).2.2) := by
  obtain ⟨pb, L, hN, h1, h2, h3⟩ := h.ex
  obtain ⟨u, hu, hl⟩ := h.at hN hx
  obtain ⟨v, hv, hl'⟩ := h.at hN hy
  refine (tame_on (by decide) h.fix (npulls hN h.fix a b hab hu hv hx hy (by omega) (fun e he => by have := (PATHS_ok _ (h.kin.at hx e he)).2; omega) (fun e he => by have := (PATHS_ok _ (h.kin.at hy e he)).2; omega)) (fun e w' h => by obtain ⟨rv, r2, e, _⟩ := h; exact ⟨_, e⟩)).mono ?_
  rintro e w' ⟨⟨rv, r2, rfl, rfl, L', hN', hrow, hf, hL⟩, hx'⟩
  obtain ⟨q1, q2⟩ := h.step hN h1 h2 h3 (hf.mono fun k _ e => .inl e) hN' hL (h.kin.set a (plR_kin (hN.rep a u x hu hx).ris (h.kin.at hx) (h.kin.at hy))) hx'
  exact ⟨rv, rfl, q1, q2, hrow⟩
end Go.Proofs.YtaelaldmibgibaaGreat

namespace Go.Proofs.YtaelaldmibgibaaGreat
open Go.RowKit Go.Sim

/-- states that may be: records of the known paths, rising; all numbers known at most B -/
structure Wf1 (B : Int) (s : RS) : Prop where
  ris : RisingE s.E
  kin : ∀ x ∈ s.E, x.1 ∈ PATHS
  lo : ∀ i, 0 ≤ s.cm i
  hi : ∀ i, s.cm i ≤ B
def Wf (B : Int) (S : List RS) : Prop := ∀ s ∈ S, Wf1 B s
theorem Wf1.len {B : Int} {s : RS} (h : Wf1 B s) : s.E.length ≤ 10 := by
  have h1 : (s.E.map (·.1)).Pairwise (fun a b => slt a b = true) := by
    rw [List.pairwise_map]
    exact h.ris
  have := pairwise_len (m := PATHS) h1 (fun x hx => by obtain ⟨y, hy, rfl⟩ := List.mem_map.1 hx; exact h.kin y hy)
  simpa [PATHS] using this
theorem Wf1.room {B : Int} {s : RS} (h : Wf1 B s) (R : Rec) : noRoom R s.E = false := by
  have h1 := thereE_len s.E
  have h2 := h.len
  unfold noRoom
  rw [Bool.and_eq_false_iff]
  right
  simp
  omega
theorem Wf1.mono {B B' : Int} {s : RS} (h : Wf1 B s) (hb : B ≤ B') : Wf1 B' s := ⟨h.ris, h.kin, h.lo, fun i => Int.le_trans (h.hi i) hb⟩
theorem Wf.mono {B B' : Int} {S : List RS} (h : Wf B S) (hb : B ≤ B') : Wf B' S := fun s hs => (h s hs).mono hb
theorem Wf.at {B : Int} {S : List RS} (h : Wf B S) {r : Nat} {s : RS} (hs : S[r]? = some s) : Wf1 B s := h s (List.mem_of_getElem? hs)
theorem Wf.set {B : Int} {S : List RS} (h : Wf B S) (r : Nat) {s : RS} (hs : Wf1 B s) : Wf B (S.set r s) := by
  intro s' hs'
  rcases List.mem_or_eq_of_mem_set hs' with h1 | rfl
  · exact h s' h1
  · exact hs
theorem gboth_le {a b : Nat → Int} {i : Nat} {B : Int} (h0 : 0 ≤ B) (h1 : a i ≤ B) (h2 : b i ≤ B) : gboth a b i ≤ B := by
  unfold gboth g1 zer
  (repeat' split) <;> omega
theorem gboth_lo (a b : Nat → Int) (i : Nat) : 0 ≤ gboth a b i ∧ a i ≤ gboth a b i ∧ b i ≤ gboth a b i := by
  unfold gboth g1 zer
  (repeat' split) <;> omega
theorem gboth_max {a b : Nat → Int} {i : Nat} (h : 0 ≤ a i) : gboth a b i = max (a i) (b i) := by
  unfold gboth g1 zer
  (repeat' split) <;> omega
theorem tf_eq (r : Nat) (x : Int) (i : Nat) (hr : r < 6) : tf r x i = if i = r then x else 0 := by
  unfold tf one
  match r, hr with
  | 0, _ | 1, _ | 2, _ | 3, _ | 4, _ | 5, _ =>
    rcases i with _ | _ | _ | _ | _ | _ | i <;> simp
theorem nxG_le {s : Nat} {cm : Nat → Int} {B : Int} (hs : s < 6) (h0 : 0 ≤ B) (h : ∀ i, cm i ≤ B) (i : Nat) : nxG s cm i ≤ B + 1 := by
  unfold nxG
  refine gboth_le (by omega) (by have := h i; omega) ?_
  rw [tf_eq _ _ _ hs]
  split
  · have := h s; omega
  · omega
theorem nxG_lo (s : Nat) (cm : Nat → Int) (i : Nat) : 0 ≤ nxG s cm i := (gboth_lo _ _ _).1
theorem Wf1.next {B : Int} {s : RS} {r : Nat} (h : Wf1 B s) (hr : r < 6) (h0 : 0 ≤ B) {p : ByteArray} (hp : p ∈ PATHS) (R : Rec) : Wf1 (B + 1) ⟨nxG r s.cm, keepE (nxG r s.cm) p R s.E⟩ :=
  ⟨keepE_rising _ _ _ _ h.ris, kin_keep hp h.kin, nxG_lo r s.cm, nxG_le hr h0 h.hi⟩
theorem wr_wf {B : Int} {s : RS} {r : Nat} (h : Wf1 B s) (hr : r < 6) (h0 : 0 ≤ B) (hB : B < 1000000000) {p : ByteArray} (hp : p ∈ PATHS) (t : ByteArray) : (wrR r s p t).1 = 0 ∧ Wf1 (B + 1) (wrR r s p t).2 := by
  unfold wrR
  have hc : (decide (1000000000 ≤ s.cm r) || noRoom (recG r s.cm (getE p s.E)) s.E) = false := by
    rw [h.room]
    have := h.hi r
    simp
    omega
  rw [hc, if_neg (by simp)]
  exact ⟨rfl, h.next hr h0 hp _⟩
theorem rm_wf {B : Int} {s : RS} {r : Nat} (h : Wf1 B s) (hr : r < 6) (h0 : 0 ≤ B) (hB : B < 1000000000) {p : ByteArray} (hp : p ∈ PATHS) : ((rmR r s p).1 = 0 ∨ (rmR r s p).1 = 4) ∧ Wf1 (B + 1) (rmR r s p).2 := by
  unfold rmR
  split
  · exact ⟨.inr rfl, h.mono (by omega)⟩
  · have hc : decide (1000000000 ≤ s.cm r) = false := by have := h.hi r; simp; omega
    rw [hc, if_neg (by simp)]
    exact ⟨.inl rfl, h.next hr h0 hp _⟩
theorem pp_wf {B : Int} {s y : RS} {r f : Nat} (h : Wf1 B s) {p : ByteArray} (hp : p ∈ PATHS) : (ppR r s f y p).2.1 = 0 ∧ Wf1 B (ppR r s f y p).2.2 := by
  unfold ppR
  rw [h.room, Bool.and_false, if_neg (by simp)]
  exact ⟨rfl, keepE_rising _ _ _ _ h.ris, kin_keep hp h.kin, h.lo, h.hi⟩
theorem rising_fold {s : Nat} {cm : Nat → Int} {E : Recs} {s' : Nat} {cm' : Nat → Int} {E' : Recs} (U : List ByteArray) : ∀ A : Recs × List (ByteArray × Int), RisingE A.1 → RisingE (U.foldl (stepA s cm E s' cm' E') A).1 := by
  induction U with
  | nil => intro A h; exact h
  | cons p U ih => intro A h; exact ih _ (keepE_rising _ _ _ _ h)
theorem pl_wf {B : Int} {s y : RS} {r f : Nat} (h : Wf1 B s) (hy : Wf1 B y) (h0 : 0 ≤ B) : (plR r s f y).1 = 0 ∧ Wf1 B (plR r s f y).2.1 ∧ (plR r s f y).2.2 = (allP r s.cm s.E f y.cm y.E).2 ∧ (plR r s f y).2.1 = ⟨gboth s.cm y.cm, (allP r s.cm s.E f y.cm y.E).1⟩ := by
  have hk := plR_kin (r := r) (r' := f) h.ris h.kin hy.kin
  have hw : ∀ x ∈ (allP r s.cm s.E f y.cm y.E).1, x.1 ∈ PATHS := by
    intro x hx
    rcases mem_stepA _ _ x hx with q | q
    · simp at q
    · have hE : RisingK (s.E.map (·.1)) := by
        unfold RisingK
        rw [List.pairwise_map]
        exact h.ris
      rcases ((union_spec _ _ hE).2 x.1).1 q with q | q
      · obtain ⟨z, hz, e⟩ := List.mem_map.1 q
        rw [← e]; exact h.kin z hz
      · obtain ⟨z, hz, e⟩ := List.mem_map.1 q
        rw [← e]; exact hy.kin z hz
  have hwf : Wf1 B ⟨gboth s.cm y.cm, (allP r s.cm s.E f y.cm y.E).1⟩ := ⟨rising_fold _ _ List.Pairwise.nil, hw, fun i => (gboth_lo _ _ i).1, fun i => gboth_le h0 (h.hi i) (hy.hi i)⟩
  have hl : ¬ 20 < (thereE (allP r s.cm s.E f y.cm y.E).1).length := by
    have h1 := thereE_len (allP r s.cm s.E f y.cm y.E).1
    have h2 := hwf.len
    simp only at h2
    omega
  unfold plR
  rw [if_neg hl]
  exact ⟨rfl, hwf, rfl, rfl⟩
theorem rs_wf {B : Int} {s y : RS} {r f : Nat} (h : Wf1 B s) (hr : r < 6) (h0 : 0 ≤ B) (hB : B < 1000000000) {p : ByteArray} (hp : p ∈ PATHS) (th : Bool) : ((rsR r s f y p th).1 = 0 ∨ (rsR r s f y p th).1 = 4) ∧ Wf1 (B + 1) (rsR r s f y p th).2 := by
  unfold rsR rsRec
  split
  · exact ⟨.inr rfl, h.mono (by omega)⟩
  · have hc : (decide (1000000000 ≤ s.cm r) || (decide (0 < (chosenR th (recG r s.cm (getE p s.E)) (recG f y.cm (getE p y.E))).bn) && noRoom (recG r s.cm (getE p s.E)) s.E)) = false := by
      rw [h.room, Bool.and_false]
      have := h.hi r
      simp
      omega
    rw [hc, if_neg (by simp)]
    exact ⟨.inl rfl, h.next hr h0 hp _⟩
/-- a step, as it was given -/
structure StepO where
  what : Int
  r : Int
  f : Int
  path : Int
  text : ByteArray
def StepO.R (o : StepO) (n : Nat) : Nat := (pickR o.r n).toNat
def StepO.F (o : StepO) (n : Nat) : Nat := (otherR (o.R n) o.f n).toNat
def StepO.P (o : StepO) : ByteArray := pDir (pickR o.path 8).toNat
def StepO.W (o : StepO) : Nat := (pickR o.what 8).toNat
def StepO.T (o : StepO) : Bool := pickR o.f 2 == 0
def rs0 : RS := ⟨fun _ => 0, []⟩
/-- what a step does -/
def doStep (n : Nat) (S : List RS) (o : StepO) : List RS :=
  if o.W ≤ 2 then S.set (o.R n) (wrR (o.R n) (S.getD (o.R n) rs0) o.P (cutT o.text)).2
  else if o.W = 3 then S.set (o.R n) (rmR (o.R n) (S.getD (o.R n) rs0) o.P).2
  else if o.W = 4 then S.set (o.R n) (ppR (o.R n) (S.getD (o.R n) rs0) (o.F n) (S.getD (o.F n) rs0) o.P).2.2
  else if o.W ≤ 6 then S.set (o.R n) (plR (o.R n) (S.getD (o.R n) rs0) (o.F n) (S.getD (o.F n) rs0)).2.1
  else S.set (o.R n) (rsR (o.R n) (S.getD (o.R n) rs0) (o.F n) (S.getD (o.F n) rs0) o.P o.T).2
theorem StepO.R_lt (o : StepO) {n : Nat} (hn : 2 ≤ n) : o.R n < n := by
  have := pickR_lt o.r n (by omega)
  unfold StepO.R
  omega
theorem StepO.F_ok (o : StepO) {n : Nat} (hn : 2 ≤ n) : o.F n < n ∧ o.F n ≠ o.R n := by
  have := otherR_ok (o.R n) n o.f (o.R_lt hn) hn
  unfold StepO.F
  omega
theorem StepO.P_in (o : StepO) : o.P ∈ PATHS := by
  have := pickR_lt o.path 8 (by decide)
  unfold StepO.P
  have h : (pickR o.path 8).toNat < 8 := by omega
  generalize (pickR o.path 8).toNat = k at *
  match k, h with
  | 0, _ => exact List.mem_cons_of_mem _ (List.mem_cons_of_mem _ (List.mem_cons_self ..))
  | 1, _ => exact List.mem_cons_of_mem _ (List.mem_cons_of_mem _ (List.mem_cons_of_mem _ (List.mem_cons_self ..)))
  | 2, _ => exact List.mem_cons_of_mem _ (List.mem_cons_of_mem _ (List.mem_cons_of_mem _ (List.mem_cons_of_mem _ (List.mem_cons_self ..))))
  | 3, _ => exact List.mem_cons_of_mem _ (List.mem_cons_of_mem _ (List.mem_cons_of_mem _ (List.mem_cons_of_mem _ (List.mem_cons_of_mem _ (List.mem_cons_self ..)))))
  | 4, _ => exact List.mem_cons_of_mem _ (List.mem_cons_of_mem _ (List.mem_cons_of_mem _ (List.mem_cons_of_mem _ (List.mem_cons_of_mem _ (List.mem_cons_of_mem _ (List.mem_cons_self ..))))))
  | 5, _ => exact List.mem_cons_of_mem _ (List.mem_cons_of_mem _ (List.mem_cons_of_mem _ (List.mem_cons_of_mem _ (List.mem_cons_of_mem _ (List.mem_cons_of_mem _ (List.mem_cons_of_mem _ (List.mem_cons_self ..)))))))
  | 6, _ => exact List.mem_cons_of_mem _ (List.mem_cons_of_mem _ (List.mem_cons_of_mem _ (List.mem_cons_of_mem _ (List.mem_cons_of_mem _ (List.mem_cons_of_mem _ (List.mem_cons_of_mem _ (List.mem_cons_of_mem _ (List.mem_cons_self ..))))))))
  | 7, _ => exact List.mem_cons_of_mem _ (List.mem_cons_of_mem _ (List.mem_cons_of_mem _ (List.mem_cons_of_mem _ (List.mem_cons_of_mem _ (List.mem_cons_of_mem _ (List.mem_cons_of_mem _ (List.mem_cons_of_mem _ (List.mem_cons_of_mem _ (List.mem_cons_self ..)))))))))
theorem getD_at {S : List RS} {r : Nat} (h : r < S.length) : S[r]? = some (S.getD r rs0) := by
  rw [List.getD_eq_getElem?_getD, List.getElem?_eq_getElem h]
  rfl
theorem doStep_len (n : Nat) (S : List RS) (o : StepO) : (doStep n S o).length = S.length := by
  unfold doStep
  (repeat' split) <;> simp
theorem doStep_wf {n : Nat} {S : List RS} (hn : 2 ≤ n) (h6 : n ≤ 6) (hS : S.length = n) {B : Int} (h0 : 0 ≤ B) (hB : B < 1000000000) (h : Wf B S) (o : StepO) : Wf (B + 1) (doStep n S o) := by
  have hr := o.R_lt hn
  have hf := o.F_ok hn
  have h1 := h.at (getD_at (S := S) (r := o.R n) (by omega))
  have h2 := h.at (getD_at (S := S) (r := o.F n) (by omega))
  have hm := h.mono (show B ≤ B + 1 by omega)
  unfold doStep
  split
  · exact hm.set _ (wr_wf h1 (by omega) h0 hB o.P_in _).2
  · split
    · exact hm.set _ (rm_wf h1 (by omega) h0 hB o.P_in).2
    · split
      · exact hm.set _ ((pp_wf h1 o.P_in).2.mono (by omega))
      · split
        · exact hm.set _ ((pl_wf h1 h2 h0).2.1.mono (by omega))
        · exact hm.set _ (rs_wf h1 (by omega) h0 hB o.P_in _).2
end Go.Proofs.YtaelaldmibgibaaGreat

namespace Go.Proofs.YtaelaldmibgibaaGreat
open Go.RowKit Go.Sim
open Classical

theorem getE_iff {E : Recs} (hE : RisingE E) (p : ByteArray) (R : Rec) : getE p E = some R ↔ (p, R) ∈ E := by
  constructor
  · exact mem_getE
  · intro h
    have hs := getE_mem h
    cases hg : getE p E with
    | none => simp only at hs; rw [hg] at hs; cases hs
    | some R' =>
      have hm := mem_getE hg
      have : ∀ x ∈ E, ∀ y ∈ E, x.1 = y.1 → x = y := by
        intro x hx y hy e
        rcases List.pairwise_iff_forall_sublist.1 hE with _
        by_cases hxy : x = y
        · exact hxy
        · exfalso
          obtain ⟨i, hi, ei⟩ := List.getElem_of_mem hx
          obtain ⟨j, hj, ej⟩ := List.getElem_of_mem hy
          have hp := List.pairwise_iff_getElem.1 hE
          rcases Nat.lt_trichotomy i j with q | q | q
          · have := hp i j hi hj q
            rw [ei, ej, e, slt_irrefl] at this
            cases this
          · subst q
            exact hxy (ei.symm.trans ej)
          · have := hp j i hj hi q
            rw [ei, ej, e, slt_irrefl] at this
            cases this
      have e := this _ hm _ h rfl
      cases e
      rfl
theorem mem_put_iff {E : Recs} {p : ByteArray} {R : Rec} {x : ByteArray × Rec} : x ∈ putE p R E ↔ x = (p, R) ∨ (x ∈ E ∧ x.1 ≠ p) := by
  unfold putE
  simp only [List.mem_append, List.mem_cons, List.mem_filter]
  constructor
  · rintro (⟨h, h1⟩ | rfl | ⟨h, h1⟩)
    · exact .inr ⟨h, fun e => by rw [e, slt_irrefl] at h1; cases h1⟩
    · exact .inl rfl
    · exact .inr ⟨h, fun e => by rw [e, slt_irrefl] at h1; cases h1⟩
  · rintro (rfl | ⟨h, h1⟩)
    · exact .inr (.inl rfl)
    · cases h2 : slt x.1 p with
      | true => exact .inl ⟨h, rfl⟩
      | false =>
        cases h3 : slt p x.1 with
        | true => exact .inr (.inr ⟨h, rfl⟩)
        | false => exact absurd (slt_tri h2 h3) h1
theorem mem_del_iff {E : Recs} {p : ByteArray} {x : ByteArray × Rec} : x ∈ delE p E ↔ x ∈ E ∧ x.1 ≠ p := by
  unfold delE
  simp only [List.mem_append, List.mem_filter]
  constructor
  · rintro (⟨h, h1⟩ | ⟨h, h1⟩)
    · exact ⟨h, fun e => by rw [e, slt_irrefl] at h1; cases h1⟩
    · exact ⟨h, fun e => by rw [e, slt_irrefl] at h1; cases h1⟩
  · rintro ⟨h, h1⟩
    cases h2 : slt x.1 p with
    | true => exact .inl ⟨h, rfl⟩
    | false =>
      cases h3 : slt p x.1 with
      | true => exact .inr ⟨h, rfl⟩
      | false => exact absurd (slt_tri h2 h3) h1
/-- what is kept of a record -/
def kept (cm : Nat → Int) (R : Rec) : Option Rec := if (decide (0 < R.bn) || !eqT R.kn cm) = true then some R else none
theorem opt_ext {a b : Option Rec} (h : ∀ R, a = some R ↔ b = some R) : a = b := by
  cases a with
  | none =>
    cases b with
    | none => rfl
    | some R => exact absurd ((h R).2 rfl) (by simp)
  | some R => exact ((h R).1 rfl).symm
theorem get_keep {cm : Nat → Int} {p q : ByteArray} {R : Rec} {E : Recs} (hE : RisingE E) : getE q (keepE cm p R E) = if q = p then kept cm R else getE q E := by
  have hk := keepE_rising cm p R E hE
  apply opt_ext
  intro R'
  rw [getE_iff hk]
  unfold keepE kept
  by_cases hm : (decide (0 < R.bn) || !eqT R.kn cm) = true
  · rw [if_pos hm, if_pos hm, mem_put_iff]
    by_cases e : q = p
    · subst e
      rw [if_pos rfl]
      constructor
      · rintro (h | ⟨_, h⟩)
        · cases h; rfl
        · exact absurd rfl h
      · intro h; cases h; exact .inl rfl
    · rw [if_neg e, getE_iff hE]
      constructor
      · rintro (h | ⟨h, _⟩)
        · cases h; exact absurd rfl e
        · exact h
      · intro h; exact .inr ⟨h, e⟩
  · rw [if_neg hm, if_neg hm, mem_del_iff]
    by_cases e : q = p
    · subst e
      rw [if_pos rfl]
      constructor
      · rintro ⟨_, h⟩; exact absurd rfl h
      · intro h; cases h
    · rw [if_neg e, getE_iff hE]
      constructor
      · rintro ⟨h, _⟩; exact h
      · intro h; exact ⟨h, e⟩
section
variable {s : Nat} {cm : Nat → Int} {E : Recs} {s' : Nat} {cm' : Nat → Int} {E' : Recs}
theorem get_fold (p : ByteArray) (U : List ByteArray) : ∀ A : Recs × List (ByteArray × Int), RisingE A.1 → RisingK U → getE p (U.foldl (stepA s cm E s' cm' E') A).1 = if p ∈ U then kept (gboth cm cm') (pullR (recG s cm (getE p E)) (recG s' cm' (getE p E'))).1 else getE p A.1 := by
  induction U with
  | nil => intro A _ _; simp
  | cons q U ih =>
    intro A hA hU
    obtain ⟨h1, h2⟩ := List.pairwise_cons.1 hU
    rw [List.foldl_cons, ih _ (keepE_rising _ _ _ _ hA) h2]
    show (if p ∈ U then _ else getE p (keepE _ q _ A.1)) = _
    rw [get_keep hA]
    by_cases e : p = q
    · subst e
      have : ¬ p ∈ U := fun h => by have := h1 p h; rw [slt_irrefl] at this; cases this
      rw [if_neg this, if_pos rfl, if_pos (List.mem_cons_self ..)]
    · rw [if_neg e]
      by_cases h : p ∈ U
      · rw [if_pos h, if_pos (List.mem_cons_of_mem _ h)]
      · rw [if_neg h, if_neg (by rw [List.mem_cons]; rintro (q | q); exact e q; exact h q)]
/-- what is told of a path -/
def toldP (s : Nat) (cm : Nat → Int) (E : Recs) (s' : Nat) (cm' : Nat → Int) (E' : Recs) (p : ByteArray) : List (ByteArray × Int) :=
  if (pullR (recG s cm (getE p E)) (recG s' cm' (getE p E'))).2 = 0 then [] else [(p, (pullR (recG s cm (getE p E)) (recG s' cm' (getE p E'))).2)]
theorem told_fold (U : List ByteArray) : ∀ A : Recs × List (ByteArray × Int), (U.foldl (stepA s cm E s' cm' E') A).2 = A.2 ++ (U.map (toldP s cm E s' cm' E')).flatten := by
  induction U with
  | nil => intro A; simp
  | cons q U ih =>
    intro A
    rw [List.foldl_cons, ih, List.map_cons, List.flatten_cons, ← List.append_assoc]
    congr 1
    unfold stepA toldP
    split <;> simp
/-- the last that is told of a path; nothing: 0 -/
def lastW (p : ByteArray) (l : List (ByteArray × Int)) : Int := l.foldl (fun acc x => if seq x.1 p = true then x.2 else acc) 0
theorem lastW_none (p : ByteArray) (l : List (ByteArray × Int)) (z : Int) (h : ∀ x ∈ l, x.1 ≠ p) : l.foldl (fun acc x => if seq x.1 p = true then x.2 else acc) z = z := by
  induction l generalizing z with
  | nil => rfl
  | cons x l ih =>
    rw [List.foldl_cons, seq_false (h x (List.mem_cons_self ..)), if_neg (by simp)]
    exact ih z (fun y hy => h y (List.mem_cons_of_mem _ hy))
theorem lastW_told (p : ByteArray) (U : List ByteArray) (hU : RisingK U) : lastW p (U.map (toldP s cm E s' cm' E')).flatten = if p ∈ U then (pullR (recG s cm (getE p E)) (recG s' cm' (getE p E'))).2 else 0 := by
  unfold lastW
  generalize hz : (0 : Int) = z
  have key : ∀ (U : List ByteArray), RisingK U → ∀ z : Int, (p ∈ U → z = 0) → (U.map (toldP s cm E s' cm' E')).flatten.foldl (fun acc x => if seq x.1 p = true then x.2 else acc) z = if p ∈ U then (pullR (recG s cm (getE p E)) (recG s' cm' (getE p E'))).2 else z := by
    intro U
    induction U with
    | nil => intro _ z _; simp
    | cons q U ih =>
      intro hU z hz
      obtain ⟨h1, h2⟩ := List.pairwise_cons.1 hU
      rw [List.map_cons, List.flatten_cons, List.foldl_append]
      by_cases e : p = q
      · subst e
        have hn : ¬ p ∈ U := fun h => by have := h1 p h; rw [slt_irrefl] at this; cases this
        rw [if_pos (List.mem_cons_self ..)]
        rw [lastW_none]
        · unfold toldP
          split
          · next h => rw [h]; exact hz (List.mem_cons_self ..)
          · simp [(seq_iff p p).2 rfl]
        · intro x hx
          obtain ⟨l, hl, hx⟩ := List.mem_flatten.1 hx
          obtain ⟨u, hu, rfl⟩ := List.mem_map.1 hl
          have : x.1 = u := by
            unfold toldP at hx
            split at hx
            · simp at hx
            · simp at hx; rw [hx]
          rw [this]
          rintro rfl
          exact hn hu
      · have e1 : (toldP s cm E s' cm' E' q).foldl (fun acc x => if seq x.1 p = true then x.2 else acc) z = z := by
          apply lastW_none
          intro x hx
          unfold toldP at hx
          split at hx
          · simp at hx
          · simp at hx; rw [hx]; exact fun q => e q.symm
        rw [e1, ih h2 z (fun h => hz (List.mem_cons_of_mem _ h))]
        by_cases h : p ∈ U
        · rw [if_pos h, if_pos (List.mem_cons_of_mem _ h)]
        · rw [if_neg h, if_neg (by rw [List.mem_cons]; rintro (q | q); exact e q; exact h q)]
  exact key U hU z (fun _ => hz.symm)
end
/-- what a pull does with two records: by its answer -/
theorem pullR_cases (t f : Rec) : ((pullR t f).2 = 1 ∧ (pullR t f).1.text = f.text ∧ (pullR t f).1.bn = f.bn ∧ 0 < f.bn) ∨ ((pullR t f).2 = 2 ∧ (pullR t f).1.bn = 0 ∧ 0 < t.bn ∧ ¬ 0 < f.bn) ∨ (((pullR t f).2 = 0 ∨ (pullR t f).2 = 3) ∧ (pullR t f).1.text = t.text ∧ (pullR t f).1.bn = t.bn) := by
  unfold pullR
  split
  · exact .inr (.inr ⟨.inl rfl, rfl, rfl⟩)
  · split
    · exact .inr (.inr ⟨.inr rfl, rfl, rfl⟩)
    · split
      · next h1 =>
        refine .inl ⟨rfl, rfl, rfl, ?_⟩
        unfold whatP at h1
        split at h1
        · next h => rw [Bool.and_eq_true, decide_eq_true_eq, decide_eq_true_eq] at h; exact h.2
        · split at h1
          · next h => exact of_decide_eq_true h
          · split at h1
            · unfold inT at h1; split at h1 <;> simp at h1
            · simp at h1
      · split
        · next h1 =>
          refine .inr (.inl ⟨rfl, rfl, ?_⟩)
          unfold whatP at h1
          split at h1
          · unfold inB at h1; (repeat' split at h1) <;> simp at h1
          · split at h1
            · unfold inF at h1; (repeat' split at h1) <;> simp at h1
            · next h2 =>
              split at h1
              · next h3 => exact ⟨of_decide_eq_true h3, by simpa using h2⟩
              · simp at h1
        · exact .inr (.inr ⟨.inl rfl, rfl, rfl⟩)
theorem pullR_none {t f : Rec} (ht : ¬ 0 < t.bn) (hf : ¬ 0 < f.bn) : (pullR t f).2 = 0 := by
  rcases pullR_cases t f with ⟨_, _, _, h⟩ | ⟨_, _, h, _⟩ | ⟨h, _⟩
  · exact absurd h hf
  · exact absurd h ht
  · rcases h with h | h
    · exact h
    · exfalso
      unfold pullR at h
      have hs : isStr f t = false := by unfold isStr; simp [ht]
      have hw : whatP t f = 0 := by unfold whatP; simp [ht, hf]
      rw [hs, hw] at h
      simp at h
/-- reading of a record -/
def rdRec (R : Rec) : ByteArray × Int := if (decide (0 < R.bn)) = true then (R.text, 0) else (⟨#[]⟩, 4)
theorem rdR_rec (r : Nat) (x : RS) (p : ByteArray) : rdR r x p = rdRec (recG r x.cm (getE p x.E)) := rfl
/-- behind a pull of all a file reads as the record that it has left -/
theorem pl_read {B : Int} {x y : RS} {r f : Nat} (hx : Wf1 B x) (hy : Wf1 B y) (h0 : 0 ≤ B) (p : ByteArray) : rdR r (plR r x f y).2.1 p = rdRec (pullR (recG r x.cm (getE p x.E)) (recG f y.cm (getE p y.E))).1 := by
  rw [(pl_wf hx hy h0).2.2.2, rdR_rec]
  have hE : RisingK (x.E.map (·.1)) := by
    unfold RisingK
    rw [List.pairwise_map]
    exact hx.ris
  obtain ⟨u1, u2⟩ := union_spec (y.E.map (·.1)) _ hE
  have hg := get_fold (s := r) (cm := x.cm) (E := x.E) (s' := f) (cm' := y.cm) (E' := y.E) p _ ([], []) List.Pairwise.nil u1
  show rdRec (recG r (gboth x.cm y.cm) (getE p ((unionK (x.E.map (·.1)) (y.E.map (·.1))).foldl (stepA r x.cm x.E f y.cm y.E) ([], [])).1)) = _
  rw [hg]
  split
  · next hu =>
    generalize (pullR (recG r x.cm (getE p x.E)) (recG f y.cm (getE p y.E))).1 = R
    unfold kept
    split
    · rfl
    · next hk =>
      simp only [Bool.or_eq_true, decide_eq_true_eq, not_or] at hk
      unfold rdRec
      rw [if_neg (by simp [recG]), if_neg (by simp; omega)]
  · next hu =>
    have hne : ∀ E : Recs, (p ∈ E.map (·.1) → False) → getE p E = none := fun E h => by
      cases hg : getE p E with
      | none => rfl
      | some R => exact (h (List.mem_map.2 ⟨_, mem_getE hg, rfl⟩)).elim
    have e1 := hne x.E (fun h => hu ((u2 p).2 (.inl h)))
    have e2 := hne y.E (fun h => hu ((u2 p).2 (.inr h)))
    rw [e1, e2]
    rcases pullR_cases (recG r x.cm none) (recG f y.cm none) with ⟨_, _, _, h⟩ | ⟨_, _, h, _⟩ | ⟨_, h1, h2⟩
    · simp [recG] at h
    · simp [recG] at h
    · unfold rdRec
      rw [h2]
      rfl
/-- what is told of a path is what was done -/
theorem pl_told {B : Int} {x y : RS} {r f : Nat} (hx : Wf1 B x) (hy : Wf1 B y) (h0 : 0 ≤ B) (p : ByteArray) : lastW p (plR r x f y).2.2 = (pullR (recG r x.cm (getE p x.E)) (recG f y.cm (getE p y.E))).2 := by
  rw [(pl_wf hx hy h0).2.2.1]
  have hE : RisingK (x.E.map (·.1)) := by
    unfold RisingK
    rw [List.pairwise_map]
    exact hx.ris
  obtain ⟨u1, u2⟩ := union_spec (y.E.map (·.1)) _ hE
  show lastW p ((unionK (x.E.map (·.1)) (y.E.map (·.1))).foldl (stepA r x.cm x.E f y.cm y.E) ([], [])).2 = _
  rw [told_fold, List.nil_append, lastW_told p _ u1]
  split
  · rfl
  · next hu =>
    have hne : ∀ E : Recs, (p ∈ E.map (·.1) → False) → getE p E = none := fun E h => by
      cases hg : getE p E with
      | none => rfl
      | some R => exact (h (List.mem_map.2 ⟨_, mem_getE hg, rfl⟩)).elim
    rw [hne x.E (fun h => hu ((u2 p).2 (.inl h))), hne y.E (fun h => hu ((u2 p).2 (.inr h)))]
    exact (pullR_none (by simp [recG]) (by simp [recG])).symm
/-- ████ behind a pull each file is what it was, or what it is there, as the changes tell -/
theorem lost_cases {B : Int} {x y : RS} {r f : Nat} (hx : Wf1 B x) (hy : Wf1 B y) (h0 : 0 ≤ B) (p : ByteArray) :
    (lastW p (plR r x f y).2.2 = 1 ∧ (rdR r (plR r x f y).2.1 p).1 = (rdR f y p).1 ∧ (rdR r (plR r x f y).2.1 p).2 = 0 ∧ (rdR f y p).2 = 0) ∨
    (lastW p (plR r x f y).2.2 = 2 ∧ (rdR r (plR r x f y).2.1 p).2 = 4 ∧ (rdR f y p).2 = 4 ∧ (rdR r x p).2 = 0) ∨
    ((lastW p (plR r x f y).2.2 = 0 ∨ lastW p (plR r x f y).2.2 = 3) ∧ rdR r (plR r x f y).2.1 p = rdR r x p) := by
  rw [pl_told hx hy h0, pl_read hx hy h0, rdR_rec, rdR_rec]
  generalize recG r x.cm (getE p x.E) = Ra
  generalize recG f y.cm (getE p y.E) = Ro
  rcases pullR_cases Ra Ro with ⟨h1, h2, h3, h4⟩ | ⟨h1, h2, h3, h4⟩ | ⟨h1, h2, h3⟩
  · refine .inl ⟨h1, ?_⟩
    unfold rdRec
    rw [h3, h2]
    simp [h4]
  · refine .inr (.inl ⟨h1, ?_⟩)
    unfold rdRec
    rw [h2]
    simp [h3, h4]
  · refine .inr (.inr ⟨h1, ?_⟩)
    unfold rdRec
    rw [h3, h2]
end Go.Proofs.YtaelaldmibgibaaGreat

namespace Go.Proofs.YtaelaldmibgibaaGreat
open Go.RowKit Go.Sim

def pText : ByteArray := ⟨#[116, 101, 120, 116]⟩
def zero0 : RS := ⟨fun _ => 0, []⟩
/-- replica 0, which has written -/
def beg0 : RS := (wrR 0 zero0 pFirst pText).2
/-- replica 1, which has pulled -/
def beg1 : RS := (plR 1 zero0 0 beg0).2.1
theorem beg_a : (wrR 0 zero0 pFirst pText).1 = 0 := by decide
theorem beg_b : (plR 1 zero0 0 beg0).1 = 0 := by kernel_rfl
theorem beg_c : (plR 1 zero0 0 beg0).2.2 = [(pFirst, 1)] := by kernel_rfl
theorem beg_d : rdR 1 beg1 pFirst = (pText, 0) := by kernel_rfl
/-- the states of a net that has begun -/
def begS (n : Nat) : List RS := ((newS n).set 0 beg0).set 1 beg1
theorem begS_two : begS 2 = [beg0, beg1] := rfl
theorem in_first : pFirst ∈ PATHS := List.mem_cons_self ..
theorem in_x : pX ∈ PATHS := List.mem_cons_of_mem _ (List.mem_cons_self ..)
end Go.Proofs.YtaelaldmibgibaaGreat

namespace Go.Proofs.YtaelaldmibgibaaGreat
open Go.RowKit Go.Sim

def neCh (x y : Value) : Sem Value := binOp .neq 66 x y
theorem neChange (x y : Value) : binOp .neq 66 x y = neCh x y := rfl
theorem run_neCh (w : World) : (neCh (.agg #[.int .i64 1, .string ⟨#[102, 105, 114, 115, 116]⟩, .int .i64 1]) (.agg #[.int .i64 1, .string ⟨#[102, 105, 114, 115, 116]⟩, .int .i64 1])).run (twin Tryz.prog pl) w = .ok (.bool false) w := by kernel_rfl
@[simp] theorem q_call8 (args : Array Value) (w : World) : (callFunc 8 args).run (twin Tryz.prog pl) w = .ok (.enter 8 args) w := q_call (by decide) args w
@[simp] theorem q_call10 (args : Array Value) (w : World) : (callFunc 10 args).run (twin Tryz.prog pl) w = .ok (.enter 10 args) w := q_call (by decide) args w
@[simp] theorem q_call19 (args : Array Value) (w : World) : (callFunc 19 args).run (twin Tryz.prog pl) w = .ok (.enter 19 args) w := q_call (by decide) args w
@[simp] theorem q_call20 (args : Array Value) (w : World) : (callFunc 20 args).run (twin Tryz.prog pl) w = .ok (.enter 20 args) w := q_call (by decide) args w
@[simp] theorem q_call21 (args : Array Value) (w : World) : (callFunc 21 args).run (twin Tryz.prog pl) w = .ok (.enter 21 args) w := q_call (by decide) args w
@[simp] theorem q_call23 (args : Array Value) (w : World) : (callFunc 23 args).run (twin Tryz.prog pl) w = .ok (.enter 23 args) w := q_call (by decide) args w
@[simp] theorem q_call24 (args : Array Value) (w : World) : (callFunc 24 args).run (twin Tryz.prog pl) w = .ok (.enter 24 args) w := q_call (by decide) args w
@[simp] theorem q_call25 (args : Array Value) (w : World) : (callFunc 25 args).run (twin Tryz.prog pl) w = .ok (.enter 25 args) w := q_call (by decide) args w
@[simp] theorem q_call26 (args : Array Value) (w : World) : (callFunc 26 args).run (twin Tryz.prog pl) w = .ok (.enter 26 args) w := q_call (by decide) args w
@[simp] theorem q_call27 (args : Array Value) (w : World) : (callFunc 27 args).run (twin Tryz.prog pl) w = .ok (.enter 27 args) w := q_call (by decide) args w
attribute [local go_sem ↓] neChange
attribute [local go_sem] run_neCh
set_option maxRecDepth 100000 in
set_option maxHeartbeats 1000000 in
theorem begun_any (n : Nat) (h2 : 2 ≤ n) (h6 : n ≤ 6) (w : World) (hx : Fixed w) :
    Calls (twin Tryz.prog pl) 15 #[.int .i64 n] w fun e w' => e = .returned (.pointer (some ⟨w.heap.size, 0, none⟩)) ∧ Ne w w' w.heap.size (begS n) [] := by
  have e0 : (newS n)[0]? = some zero0 := by unfold newS; rw [List.getElem?_replicate, if_pos (by omega)]; rfl
  have e1 : ((newS n).set 0 beg0)[1]? = some zero0 := by rw [List.getElem?_set_ne (by omega)]; unfold newS; rw [List.getElem?_replicate, if_pos (by omega)]; rfl
  have hnl : (newS n).length = n := by simp [newS]
  have e2 : ((newS n).set 0 beg0)[0]? = some beg0 := by rw [List.getElem?_set_self (by omega)]
  have e3 : (begS n)[1]? = some beg1 := by unfold begS; rw [List.getElem?_set_self (by simp; omega)]
  have C1 := hide (eNew n w (by omega) h6 hx)
  have C2 : Hid (∀ V, Ne w V w.heap.size (newS n) [] → Calls (twin Tryz.prog pl) 10 #[.pointer (some ⟨w.heap.size, 0, none⟩), .int .i64 0, .string pFirst, .string pText] V fun e w' => e = .returned (.int .i64 0) ∧ Ne w w' w.heap.size ((newS n).set 0 beg0) []) := fun V hV => by
    refine (eWrite hV 0 e0 pFirst pText in_first (by decide)).mono ?_
    rintro e w' ⟨rfl, hN, _⟩
    exact ⟨by rw [beg_a], hN⟩
  have C3 : Hid (∀ V, Ne w V w.heap.size ((newS n).set 0 beg0) [] → Calls (twin Tryz.prog pl) 22 #[.pointer (some ⟨w.heap.size, 0, none⟩), .int .i64 1, .int .i64 0] V fun e w' => ∃ g cap, e = .returned (.tuple #[.slice (some ⟨g, 0, none⟩) 1 cap, .int .i64 0]) ∧ Ne w w' w.heap.size (begS n) [] ∧ w'.ownsRow 0 66 3 (.slice (some ⟨g, 0, none⟩) 1 cap) 1 [.int .i64 1, .string pFirst, .int .i64 1]) := fun V hV => by
    refine (ePull hV 1 0 (by omega) e1 e2).mono ?_
    rintro e w' ⟨rv, rfl, hN, _, hr⟩
    rw [beg_b]
    rw [beg_c] at hr
    obtain ⟨g, cap, rfl, _⟩ := World.ownsRow.form hr (by simp)
    exact ⟨g, cap, rfl, hN, ownsRow_base hr (fun _ _ => Nat.zero_le _)⟩
  have C4 : Hid (∀ V, Ne w V w.heap.size (begS n) [] → Calls (twin Tryz.prog pl) 25 #[.pointer (some ⟨w.heap.size, 0, none⟩), .int .i64 1, .string pFirst] V fun e w' => e = .returned (.tuple #[.string pText, .int .i64 0]) ∧ Ne w w' w.heap.size (begS n) [] ∧ Below V.heap.size V w') := fun V hV => by
    refine (eRead hV 1 e3 pFirst in_first).mono ?_
    rintro e w' ⟨rfl, hN, hb⟩
    rw [beg_d]
    exact ⟨rfl, hN, hb⟩
  unfold pFirst at C2 C3 C4
  unfold pText at C2 C4
  clear e0 e1 e2 e3 hx
  have eg : ∀ V, (eqGuard .neq 66 (.tmp 55) (.tmp 56) (.agg #[.int .i64 1, .string ⟨#[102, 105, 114, 115, 116]⟩, .int .i64 1]) (.agg #[.int .i64 1, .string ⟨#[102, 105, 114, 115, 116]⟩, .int .i64 1])).run (twin Tryz.prog pl) V = .ok () V := fun V => by kernel_rfl
  go_enter q_func15, Tryz.ntmps15
  go_wp2_with (first
    | (go_at_call 8; refine C1.out.mono ?_; rintro e w1 ⟨rfl, hN1⟩; have N1 := hide hN1; clear hN1)
    | (go_at_call 10; refine (C2.out _ N1.out).mono ?_; rintro e w2 ⟨rfl, hN2⟩; have N2 := hide hN2; clear hN2)
    | (go_at_call 22; refine (C3.out _ N2.out).mono ?_; rintro e w3 ⟨g, cap, rfl, hN3, ho3⟩; have N3 := hide hN3; have O3 := hide ho3; clear hN3 ho3)
    | (go_at_call 25; refine (C4.out _ N3.out).mono ?_; rintro e w4 ⟨rfl, hN4, hb4⟩; have N4 := hide hN4; have O4 := ownsRow_keep O3.out (fun k e => hb4.block k (World.ownsRow.lt O3.out k e).2); have k0 : w4.cell? ⟨g, 0, none⟩ = some (.int .i64 1) := (World.ownsRow.cellAt O4 0 (by decide)); have k1 : w4.cell? ⟨g, 1, none⟩ = some (.string ⟨#[102, 105, 114, 115, 116]⟩) := (World.ownsRow.cellAt O4 1 (by decide)); have k2 : w4.cell? ⟨g, 2, none⟩ = some (.int .i64 1) := (World.ownsRow.cellAt O4 2 (by decide)); clear hN4 hb4 O4))
  go_ret
  exact ⟨rfl, N4.out⟩
end Go.Proofs.YtaelaldmibgibaaGreat
