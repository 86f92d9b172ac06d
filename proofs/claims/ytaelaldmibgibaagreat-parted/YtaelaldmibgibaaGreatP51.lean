/- The twin: a pull of all. A net that copies a file: what begun answers (pure). Two replicas that part and meet: the answers (pure). A net that copies a file: begun. Parted over the twin. -/
import Derived.Test.YtaelaldmibgibaaGreatP50
import Derived.Test.YtaelaldmibgibaaGreatP41
import Derived.Test.YtaelaldmibgibaaGreatP42
import Derived.Test.YtaelaldmibgibaaGreatP17

set_option linter.unusedVariables false
set_option linter.unusedSimpArgs false
set_option linter.unusedSectionVars false

namespace Go.Proofs.YtaelaldmibgibaaGreat
open Go.RowKit Go.Sim

/-- a pull of all: the answer, the state behind it, the changes -/
def plR (s : Nat) (x : RS) (s' : Nat) (y : RS) : Int × RS × List (ByteArray × Int) :=
  if 20 < (thereE (allP s x.cm x.E s' y.cm y.E).1).length then (5, x, []) else (0, ⟨gboth x.cm y.cm, (allP s x.cm x.E s' y.cm y.E).1⟩, (allP s x.cm x.E s' y.cm y.E).2)
theorem chv_one (s : Nat) (l : List (ByteArray × Int)) : ∀ u ∈ chv s l, u.oneCell' = true := by
  intro u hu
  unfold chv at hu
  obtain ⟨l', hl, hu⟩ := List.mem_flatten.1 hu
  obtain ⟨x, _, rfl⟩ := List.mem_map.1 hl
  simp at hu
  rcases hu with rfl | rfl | rfl <;> rfl
theorem nodup_set {l : List Nat} (h : l.Nodup) {a x : Nat} (hx : x ∉ l) : (l.set a x).Nodup := by
  apply nodup_of
  intro i j v hi hj
  rw [List.getElem?_set] at hi hj
  split at hi
  · next e1 =>
    split at hj
    · next e2 => omega
    · split at hi
      · cases hi
        exact absurd (List.mem_of_getElem? hj) hx
      · cases hi
  · split at hj
    · split at hj
      · cases hj
        exact absurd (List.mem_of_getElem? hi) hx
      · cases hj
    · rcases Nat.decEq i j with q | q
      · exact absurd rfl (getElem_ne h hi hj q)
      · exact q
theorem set_self {S : List RS} {a : Nat} {x : RS} (h : S[a]? = some x) : S.set a x = S := by
  apply List.ext_getElem?
  intro i
  rw [List.getElem?_set]
  split
  · next e =>
    subst e
    rw [if_pos (List.getElem?_eq_some_iff.1 h).1, h]
  · rfl
theorem mem_set_or {l : List Nat} {a x k : Nat} (h : k ∈ l.set a x) : k = x ∨ k ∈ l := by
  rcases List.mem_or_eq_of_mem_set h with q | q
  · exact .inr q
  · exact .inl q
/-- a replica is put in its place -/
theorem Nt.put {w : World} {nb pb : Nat} {L : List (Nat × Nat)} {S : List RS} (h : Nt w nb pb L S) {a : Nat} {u : Nat × Nat} (hu : L[a]? = some u) {B ab am : Nat} {s' : RS} (hr : Rg w ab a s'.cm am s'.E) (hab : ab ≠ am) (h1 : nb < B) (h2 : pb < B) (h3 : ∀ x ∈ L, x.1 < B ∧ x.2 < B) (h4 : B ≤ ab) (h5 : B ≤ am) :
    Nt (w.setCell ⟨pb, a, none⟩ (.pointer (some ⟨ab, 0, none⟩))) nb pb (L.set a (ab, am)) (S.set a s') := by
  have hf : Fr (fun k => k = pb) w (w.setCell ⟨pb, a, none⟩ (.pointer (some ⟨ab, 0, none⟩))) := (Fr.refl (fun k => k = pb) w).setCell (p := ⟨pb, a, none⟩) (.inl rfl) _
  have hap := h.apart
  have hnp : nb ≠ pb := by
    simp only [List.nodup_cons, List.mem_cons, not_or] at hap
    exact hap.1.1
  obtain ⟨cur, hcur⟩ := h.pbk
  have hal : a < L.length := (List.getElem?_eq_some_iff.1 hu).1
  refine ⟨?_, fun i x s hi hs => ?_, Nat.lt_of_lt_of_le h.nlt hf.size, Nat.lt_of_lt_of_le h.plt hf.size, ?_, ⟨_, heap_setCell_same _ _ _ _ _ _ hcur⟩⟩
  · rw [List.length_set]
    obtain ⟨cap, hc⟩ := h.net.blk
    refine ⟨⟨cap, by rw [hf.block nb h.nlt hnp]; exact hc⟩, by rw [List.length_map, List.length_set]; have := h.net.len; simpa using this, fun r b hb => ?_, h.net.n6⟩
    rw [List.getElem?_map, List.getElem?_set] at hb
    have old : ∀ r b, (L.map (·.1))[r]? = some b → cur[r]? = some (Value.pointer (some ⟨b, 0, none⟩)) := fun r b hb => by
      have := h.net.row r b hb
      simpa [World.cell?, hcur] using this
    have hsz : a < cur.size := by
      have := old a u.1 (by rw [List.getElem?_map, hu]; rfl)
      exact (Array.getElem?_eq_some_iff.1 this).1
    simp only [World.cell?, heap_setCell_same _ _ _ _ _ _ hcur]
    split at hb
    · next e =>
      subst e
      simp at hb
      subst hb
      simp [hsz]
    · next e =>
      have := old r b (by rw [List.getElem?_map]; exact hb)
      simp only [Array.getElem?_setIfInBounds_ne e]
      exact this
  · by_cases e : a = i
    · subst e
      rw [List.getElem?_set_self hal] at hi
      cases hi
      have hsl : a < S.length := by have := h.len; omega
      rw [List.getElem?_set_self hsl] at hs
      cases hs
      exact hr.keep (hf.block _ hr.rep.lt (fun e => by have : ab = pb := e; omega)) (hf.block _ hr.own.lt (fun e => by have : am = pb := e; omega))
    · rw [List.getElem?_set_ne e] at hi hs
      have q := h.rep i x s hi hs
      obtain ⟨n1, n2, n3, n4⟩ := h.ne hi
      exact q.keep (hf.block _ q.rep.lt (fun e => n3 e.symm)) (hf.block _ q.own.lt (fun e => n4 e.symm))
  · have hb1 : ∀ k ∈ L.map (·.1), k < B := fun k hk => by obtain ⟨x, hx, rfl⟩ := List.mem_map.1 hk; exact (h3 x hx).1
    have hb2 : ∀ k ∈ L.map (·.2), k < B := fun k hk => by obtain ⟨x, hx, rfl⟩ := List.mem_map.1 hk; exact (h3 x hx).2
    rw [List.map_set, List.map_set]
    simp only [List.nodup_cons, List.nodup_append, List.mem_cons, List.mem_append, not_or] at hap ⊢
    obtain ⟨⟨a1, a2, a3⟩, ⟨a4, a5⟩, a6, a7, a8⟩ := hap
    refine ⟨⟨a1, fun q => ?_, fun q => ?_⟩, ⟨fun q => ?_, fun q => ?_⟩, nodup_set a6 (fun q => by have := hb1 _ q; omega), nodup_set a7 (fun q => by have := hb2 _ q; omega), fun k hk j hj e => ?_⟩
    · rcases mem_set_or q with e | e
      · omega
      · exact a2 e
    · rcases mem_set_or q with e | e
      · omega
      · exact a3 e
    · rcases mem_set_or q with e | e
      · omega
      · exact a4 e
    · rcases mem_set_or q with e | e
      · omega
      · exact a5 e
    · subst e
      rcases mem_set_or hk with e1 | e1
      · rcases mem_set_or hj with e2 | e2
        · omega
        · have := hb2 _ e2; omega
      · rcases mem_set_or hj with e2 | e2
        · have := hb1 _ e1; omega
        · exact a8 k e1 k e2 rfl
theorem aw_below (V : World) (nb : Nat) (a b : Int) : Below V.heap.size V (atWork V nb a b) := by
  unfold atWork
  refine Below.alloc (Below.alloc (Below.alloc (Below.alloc (Below.alloc (Below.alloc (Below.alloc (Below.alloc (Below.refl _ _) ?_ _) ?_ _) ?_ _) ?_ _) ?_ _) ?_ _) ?_ _) ?_ _ <;> simp <;> omega
theorem aw_size (V : World) (nb : Nat) (a b : Int) : (atWork V nb a b).heap.size = V.heap.size + 8 := by simp [atWork]
theorem aw_fixed {V : World} (h : Fixed V) (nb : Nat) (a b : Int) : Fixed (atWork V nb a b) :=
  Fixed.alloc (Fixed.alloc (Fixed.alloc (Fixed.alloc (Fixed.alloc (Fixed.alloc (Fixed.alloc (Fixed.alloc h _ _) _ _) _ _) _ _) _ _) _ _) _ _) _ _
theorem aw_at (V : World) (nb : Nat) (a b : Int) (k : Nat) : (atWork V nb a b).heap[V.heap.size + k]? = (#[Obj.cells #[.pointer (some ⟨nb, 0, none⟩)] 23, .cells #[.pointer none, .slice none 0 0, .int .i64 0] 137, .cells #[.slice (some ⟨V.heap.size + 1, 0, none⟩) 1 1] 134, .cells #[] 160, .cells #[.int .i64 0] 3, .cells #[.int .i64 a, .int .i64 b] 100, .cells #[] 172, .cells #[] 1])[k]? := by
  have e : (atWork V nb a b).heap = V.heap ++ #[Obj.cells #[.pointer (some ⟨nb, 0, none⟩)] 23, .cells #[.pointer none, .slice none 0 0, .int .i64 0] 137, .cells #[.slice (some ⟨V.heap.size + 1, 0, none⟩) 1 1] 134, .cells #[] 160, .cells #[.int .i64 0] 3, .cells #[.int .i64 a, .int .i64 b] 100, .cells #[] 172, .cells #[] 1] := by
    unfold atWork World.alloc
    apply Array.toList_inj.1
    simp only [Array.toList_push, Array.toList_append, List.append_assoc, List.cons_append, List.nil_append]
  rw [e, Array.getElem?_append_right (by omega), Nat.add_sub_cancel_left]
theorem aw_cell (V : World) (nb : Nat) (a b : Int) (k : Nat) {cs : Array Value} {ty : TypeId} (h : (#[Obj.cells #[.pointer (some ⟨nb, 0, none⟩)] 23, .cells #[.pointer none, .slice none 0 0, .int .i64 0] 137, .cells #[.slice (some ⟨V.heap.size + 1, 0, none⟩) 1 1] 134, .cells #[] 160, .cells #[.int .i64 0] 3, .cells #[.int .i64 a, .int .i64 b] 100, .cells #[] 172, .cells #[] 1] : Array Obj)[k]? = some (.cells cs ty)) (o : Nat) : (atWork V nb a b).cell? ⟨V.heap.size + k, o, none⟩ = cs[o]? := by
  simp [World.cell?, aw_at, h]
/-- how it stands behind pullsOf -/
def P3s (W0 : World) (nb a b : Nat) (cm : Nat → Int) (A : Recs × List (ByteArray × Int)) (gb : Nat) (V' : World) : Prop :=
  ∃ V, Below W0.heap.size W0 V ∧ gb = V.heap.size + 1 ∧ PullLeft (atWork V nb a b) V' gb a cm A ∧ Fr (fun k => k = gb) (atWork V nb a b) V'
theorem P3s.below {W0 : World} {nb a b : Nat} {cm : Nat → Int} {A : Recs × List (ByteArray × Int)} {gb : Nat} {V' : World} (h : P3s W0 nb a b cm A gb V') : Below W0.heap.size W0 V' := by
  obtain ⟨V, h1, rfl, _, hf⟩ := h
  have h2 := h1.trans ((aw_below V nb a b).mono h1.size)
  have hs := h1.size
  exact ⟨hf.os.trans h2.os, hf.tape.trans h2.tape, hf.output.trans h2.output, Nat.le_trans h2.size hf.size, fun k hk => (hf.block k (by have := h2.size; omega) (by omega)).trans (h2.block k hk)⟩
theorem P3s.size {W0 : World} {nb a b : Nat} {cm : Nat → Int} {A : Recs × List (ByteArray × Int)} {gb : Nat} {V' : World} (h : P3s W0 nb a b cm A gb V') : W0.heap.size ≤ V'.heap.size := h.below.size
set_option maxHeartbeats 1000000 in
theorem npulls {nb pb : Nat} {L : List (Nat × Nat)} {S : List RS} {w : World} (h : Nt w nb pb L S) (hF : Fixed w) (a b : Nat) (hab : a ≠ b) {u v : Nat × Nat} {x y : RS} (hu : L[a]? = some u) (hv : L[b]? = some v) (hx : S[a]? = some x) (hy : S[b]? = some y)
    (hl : x.E.length + y.E.length < 900000) (hk : ∀ e ∈ x.E, e.1.size ≤ 1000000) (hk' : ∀ e ∈ y.E, e.1.size ≤ 1000000) :
    Calls (twin Tryz.prog pl) 22 #[.pointer (some ⟨nb, 0, none⟩), .int .i64 a, .int .i64 b] w fun e w' => ∃ rv r2, e = .returned (.tuple #[rv, r2]) ∧ r2 = .int .i64 (plR a x b y).1 ∧ ∃ L', Nt w' nb pb L' (S.set a (plR a x b y).2.1) ∧ w'.ownsRow w.heap.size 66 3 rv (plR a x b y).2.2.length (chv a (plR a x b y).2.2) ∧ Fr (fun k => k = pb) w w' ∧ ∀ x ∈ L', x ∈ L ∨ (w.heap.size ≤ x.1 ∧ w.heap.size ≤ x.2) := by
  refine qpull nb a b w _ ?_
  have hal : a < S.length := (List.getElem?_eq_some_iff.1 hx).1
  have hbl : b < S.length := (List.getElem?_eq_some_iff.1 hy).1
  have n6 := h.net.n6
  have hok : okP S.length a b = true := by
    unfold okP
    simp only [Bool.and_eq_true, decide_eq_true_eq, Bool.not_eq_true', beq_eq_false_iff_ne]
    omega
  generalize hW : w.alloc (.cells #[.int .i64 (a : Int), .int .i64 (b : Int)] 100) = W0
  have bW : Below w.heap.size w W0 := by rw [← hW]; exact (Below.refl _ _).alloc (Nat.le_refl _) _
  have fW : Fixed W0 := by rw [← hW]; exact Fixed.alloc hF _ _
  have sW : W0.heap.size = w.heap.size + 1 := by rw [← hW]; simp
  have g0 : W0.cell? ⟨w.heap.size, 0, none⟩ = some (.int .i64 a) := by rw [← hW]; simp only [World.cell?, heap_alloc_new]; rfl
  have g1 : W0.cell? ⟨w.heap.size, 1, none⟩ = some (.int .i64 b) := by rw [← hW]; simp only [World.cell?, heap_alloc_new]; rfl
  clear hW
  have cellW : ∀ V, Below W0.heap.size W0 V → V.cell? ⟨w.heap.size, 0, none⟩ = some (.int .i64 a) ∧ V.cell? ⟨w.heap.size, 1, none⟩ = some (.int .i64 b) := fun V hV => ⟨(hV.cell (p := ⟨w.heap.size, 0, none⟩) (by simp only; omega)).trans g0, (hV.cell (p := ⟨w.heap.size, 1, none⟩) (by simp only; omega)).trans g1⟩
  have belW : ∀ V, Below W0.heap.size W0 V → Below w.heap.size w V := fun V hV => bW.trans (hV.mono bW.size)
  have h1 : Calls (twin Tryz.prog pl) 62 #[.pointer (some ⟨nb, 0, none⟩), .slice (some ⟨w.heap.size, 0, none⟩) 1 1] W0 fun e w' => e = .returned (.bool true) ∧ (Below W0.heap.size W0 w' ∧ Fixed w') := by
    have hN := h.below bW
    refine (shared.calls (by decide) fW (arePairs_one nb S.length pb (L.map (·.1)) w.heap.size 1 a b W0 hN.net hN.nlt hN.plt (by omega) g0 g1) (fun e w' h => ⟨_, h.1⟩)).mono ?_
    rintro e w' ⟨⟨rfl, hb⟩, hf⟩
    rw [hok]
    exact ⟨rfl, hb, hf⟩
  have h2 : ∀ V, (Below W0.heap.size W0 V ∧ Fixed V) → Calls (twin Tryz.prog pl) 63 #[.slice (some ⟨w.heap.size, 0, none⟩) 1 1] V fun e w' => e = .returned (.bool true) ∧ (Below W0.heap.size W0 w' ∧ Fixed w') := by
    rintro V ⟨hb, hf⟩
    refine (shared.calls (by decide) hf (areApart_one w.heap.size 1 a b (by omega) (by omega) V (by have := hb.size; omega) (cellW V hb).1 (cellW V hb).2) (fun e w' h => ⟨_, h.1⟩)).mono ?_
    rintro e w' ⟨⟨rfl, hb'⟩, hf'⟩
    exact ⟨rfl, hb.trans (hb'.mono hb.size), hf'⟩
  have h3 : ∀ V, (Below W0.heap.size W0 V ∧ Fixed V) → Calls (twin Tryz.prog pl) 64 #[.pointer (some ⟨nb, 0, none⟩), .slice (some ⟨w.heap.size, 0, none⟩) 1 1] V fun e w' => ∃ gb, e = .returned (.slice (some ⟨gb, 0, none⟩) 1 1) ∧ P3s W0 nb a b (gboth x.cm y.cm) (allP a x.cm x.E b y.cm y.E) gb w' := by
    rintro V ⟨hb, hf⟩
    have hN := (h.below (belW V hb)).below (aw_below V nb a b)
    refine (qpulls_one nb w.heap.size 1 a b V (cellW V hb).1 (cellW V hb).2 (by have := hb.size; omega) (fun w' => P3s W0 nb a b (gboth x.cm y.cm) (allP a x.cm x.E b y.cm y.E) (V.heap.size + 1) w') ?_).mono (fun e w' h => ⟨_, h.1, h.2⟩)
    refine (shared.calls (by decide) (aw_fixed hf nb a b) (work_any V.heap.size (V.heap.size + 5) (V.heap.size + 2) (V.heap.size + 4) (V.heap.size + 1) hN a b hu hv hx hy hl hk hk' (aw_cell V nb a b 0 rfl 0) (aw_cell V nb a b 5 rfl 0) (aw_cell V nb a b 5 rfl 1) (aw_cell V nb a b 2 rfl 0) (aw_cell V nb a b 4 rfl 0) (aw_at V nb a b 1)) (fun e w' h => ⟨_, h.1⟩)).mono ?_
    rintro e w' ⟨⟨rfl, hp, hfr⟩, _⟩
    refine ⟨rfl, ?_, V, hb, rfl, hp, hfr⟩
    rw [World.cell?_of_block (w := atWork V nb a b) (hfr.block (V.heap.size + 2) (by rw [aw_size]; omega) (by omega))]
    exact aw_cell V nb a b 2 rfl 0
  by_cases hfull : 20 < (thereE (allP a x.cm x.E b y.cm y.E).1).length
  · have ep : plR a x b y = (5, x, []) := by unfold plR; rw [if_pos hfull]
    rw [ep]
    refine (qround_full nb w.heap.size 1 W0 h1 h2 h3 (fun gb V hP => ?_)).mono ?_
    · obtain ⟨V0, _, _, hp | hp, _⟩ := hP
      · exact hp.2
      · omega
    · rintro e w' ⟨rfl, gb, V, hP, hb⟩
      have hb' := hP.below
      have hbw := belW w' (hb'.trans (hb.mono hb'.size))
      refine ⟨_, _, rfl, rfl, L, ?_, World.ownsRow_nil _ _ _ _, Fr.of_below hbw, fun x hx => .inl hx⟩
      rw [set_self hx]
      exact h.below hbw
  · have ep : plR a x b y = (0, ⟨gboth x.cm y.cm, (allP a x.cm x.E b y.cm y.E).1⟩, (allP a x.cm x.E b y.cm y.E).2) := by unfold plR; rw [if_neg hfull]
    rw [ep]
    obtain ⟨cap, hc⟩ := h.net.blk
    obtain ⟨cur, hcur⟩ := h.pbk
    have hm : (allP a x.cm x.E b y.cm y.E).2.length ≤ 1000000 := by
      have q1 := (accP_len a x.cm x.E b y.cm y.E (unionK (x.E.map (·.1)) (y.E.map (·.1))) ([], [])).2
      have q2 := union_len (y.E.map (·.1)) (x.E.map (·.1))
      rw [List.length_map, List.length_map] at q2
      show ((unionK (x.E.map (·.1)) (y.E.map (·.1))).foldl (stepA a x.cm x.E b y.cm y.E) ([], [])).2.length ≤ _
      simp only [List.length_nil] at q1
      omega
    have hLB : ∀ x ∈ L, x.1 < w.heap.size ∧ x.2 < w.heap.size := fun z hz => by
      obtain ⟨i, hi⟩ := List.getElem?_of_mem hz
      have hil : i < S.length := by have := (List.getElem?_eq_some_iff.1 hi).1; have := h.len; omega
      have q := h.rep i z _ hi (List.getElem?_eq_getElem hil)
      exact ⟨q.rep.lt, q.own.lt⟩
    refine (qround_ok nb w.heap.size 1 W0 a pb S.length cap (allP a x.cm x.E b y.cm y.E).2.length (chv a (allP a x.cm x.E b y.cm y.E).2) n6 hal h1 h2 h3 (fun gb V hP => ?_)).mono ?_
    · have hbV := belW V hP.below
      have hcl := (cellW V hP.below).1
      have hsz := hP.size
      obtain ⟨V0, hV0, rfl, hp | ⟨hle, ab, am, z, cv, q1, q2, q3, q4, q5, q6, q7, q8, q9⟩, hfr⟩ := hP
      · omega
      · refine ⟨ab, z, cv, q1, q3, chv_one _ _, hm, fun e => q9 (List.length_eq_zero_iff.1 e), ?_, hcl, ⟨_, (h.below hbV).net.row a u.1 (by rw [List.getElem?_map, hu]; rfl)⟩, ?_, Nat.lt_of_lt_of_le h.nlt hbV.size, Nat.lt_of_lt_of_le h.plt hbV.size, by omega⟩
        · rw [hbV.cell (p := ⟨nb, 0, none⟩) h.nlt]
          simp [World.cell?, hc]
        · simp [World.frozen?, hbV.block pb h.plt, hcur]
    · rintro e w' ⟨gb, V, V', ab, z, cv, rv, rfl, hP, hg, hown, hB, hR, rfl⟩
      have hbV := hP.below
      have hbV' := belW V' (hbV.trans (hB.mono hbV.size))
      have hsz := hP.size
      obtain ⟨V0, hV0, rfl, hp | ⟨hle, ab', am, z', cv', q1, q2, q3, q4, q5, q6, q7, q8, q9⟩, hfr⟩ := hP
      · omega
      · rw [hg] at q1
        simp only [Option.some.injEq, Obj.cells.injEq, Array.mk.injEq, List.cons.injEq, Value.pointer.injEq, Addr.mk.injEq, and_true] at q1
        obtain ⟨rfl, rfl⟩ := q1
        have ga := (aw_below V0 nb a b).size
        have g0 := hV0.size
        have hN := h.below hbV'
        have hput := hN.put hu (s' := ⟨gboth x.cm y.cm, (allP a x.cm x.E b y.cm y.E).1⟩) (q2.below hB) q6 h.nlt h.plt hLB (B := w.heap.size) (by omega) (by omega)
        have hfp : Fr (fun k => k = pb) V' (V'.setCell ⟨pb, a, none⟩ (.pointer (some ⟨ab, 0, none⟩))) := (Fr.refl (fun k => k = pb) V').setCell (p := ⟨pb, a, none⟩) (.inl rfl) _
        refine ⟨_, _, rfl, rfl, _, hput, ?_, (Fr.of_below hbV').trans hfp, fun x hx => ?_⟩
        · have hpl := h.plt
          refine ownsRow_base (ownsRow_keep hR (fun k e => hfp.block k (World.ownsRow.lt hR k e).2 (by have := (World.ownsRow.lt hR k e).1; omega))) (fun k e => by have := (World.ownsRow.lt hR k e).1; omega)
        · rcases List.mem_or_eq_of_mem_set hx with q | rfl
          · exact .inl q
          · exact .inr ⟨by simp only; omega, by simp only; omega⟩
theorem mem_stepA {s : Nat} {cm : Nat → Int} {E : Recs} {s' : Nat} {cm' : Nat → Int} {E' : Recs} (U : List ByteArray) : ∀ (A : Recs × List (ByteArray × Int)) x, x ∈ (U.foldl (stepA s cm E s' cm' E') A).1 → x ∈ A.1 ∨ x.1 ∈ U := by
  induction U with
  | nil => intro A x hx; exact .inl hx
  | cons p U ih =>
    intro A x hx
    rcases ih _ x hx with q | q
    · rcases keepE_mem q with rfl | q
      · exact .inr (List.mem_cons_self ..)
      · exact .inl q
    · exact .inr (List.mem_cons_of_mem _ q)
theorem plR_kin {r : Nat} {s : RS} {r' : Nat} {y : RS} (hr : RisingE s.E) (hs : ∀ x ∈ s.E, x.1 ∈ PATHS) (hy : ∀ x ∈ y.E, x.1 ∈ PATHS) : ∀ x ∈ (plR r s r' y).2.1.E, x.1 ∈ PATHS := by
  unfold plR
  split
  · exact hs
  · intro x hx
    rcases mem_stepA _ _ x hx with q | q
    · simp at q
    · have hE : RisingK (s.E.map (·.1)) := by
        unfold RisingK
        rw [List.pairwise_map]
        exact hr
      rcases ((union_spec _ _ hE).2 x.1).1 q with q | q
      · obtain ⟨z, hz, e⟩ := List.mem_map.1 q
        rw [← e]; exact hs z hz
      · obtain ⟨z, hz, e⟩ := List.mem_map.1 q
        rw [← e]; exact hy z hz
theorem ePull {w0 w : World} {nb : Nat} {S : List RS} {K : List Nat} (h : Ne w0 w nb S K) (a b : Nat) (hab : a ≠ b) {x y : RS} (hx : S[a]? = some x) (hy : S[b]? = some y) :
    Calls (twin Tryz.prog pl) 22 #[.pointer (some ⟨nb, 0, none⟩), .int .i64 a, .int .i64 b] w fun e w' => ∃ rv, e = .returned (.tuple #[rv, .int .i64 (plR a x b y).1]) ∧ Ne w0 w' nb (S.set a (plR a x b y).2.1) K ∧ Keeps K w w' ∧ w'.ownsRow w.heap.size 66 3 rv (plR a x b y).2.2.length (chv a (plR a x b y).2.2) := by
  obtain ⟨pb, L, hN, h1, h2, h3⟩ := h.ex
  obtain ⟨u, hu, hl⟩ := h.at hN hx
  obtain ⟨v, hv, hl'⟩ := h.at hN hy
  refine (tame_on (by decide) h.fix (npulls hN h.fix a b hab hu hv hx hy (by omega) (fun e he => by have := (PATHS_ok _ (h.kin.at hx e he)).2; omega) (fun e he => by have := (PATHS_ok _ (h.kin.at hy e he)).2; omega)) (fun e w' h => by obtain ⟨rv, r2, e, _⟩ := h; exact ⟨_, e⟩)).mono ?_
  rintro e w' ⟨⟨rv, r2, rfl, rfl, L', hN', hrow, hf, hL⟩, hx'⟩
  obtain ⟨q1, q2⟩ := h.step hN h1 h2 h3 (hf.mono fun k _ e => .inl e) hN' hL (h.kin.set a (plR_kin (hN.rep a u x hu hx).ris (h.kin.at hx) (h.kin.at hy))) hx'
  exact ⟨rv, rfl, q1, q2, hrow⟩
end Go.Proofs.YtaelaldmibgibaaGreat

namespace Go.Proofs.YtaelaldmibgibaaGreat
open Go.RowKit Go.Sim

def pText : ByteArray := ⟨#[116, 101, 120, 116]⟩
def zero0 : RS := ⟨fun _ => 0, []⟩
/-- replica 0, which has written -/
def beg0 : RS := (wrR 0 zero0 pFirst pText).2
/-- replica 1, which has pulled -/
def beg1 : RS := (plR 1 zero0 0 beg0).2.1
theorem beg_a : (wrR 0 zero0 pFirst pText).1 = 0 := by decide
theorem beg_b : (plR 1 zero0 0 beg0).1 = 0 := by kernel_rfl
theorem beg_c : (plR 1 zero0 0 beg0).2.2 = [(pFirst, 1)] := by kernel_rfl
theorem beg_d : rdR 1 beg1 pFirst = (pText, 0) := by kernel_rfl
/-- the states of a net that has begun -/
def begS (n : Nat) : List RS := ((newS n).set 0 beg0).set 1 beg1
theorem begS_two : begS 2 = [beg0, beg1] := rfl
theorem in_first : pFirst ∈ PATHS := List.mem_cons_self ..
theorem in_x : pX ∈ PATHS := List.mem_cons_of_mem _ (List.mem_cons_self ..)
end Go.Proofs.YtaelaldmibgibaaGreat

namespace Go.Proofs.YtaelaldmibgibaaGreat
open Go.RowKit Go.Sim

section
variable (t m h : ByteArray)
/-- replica 0 has written; replica 1 has pulled -/
def ptA : RS := (wrR 0 beg0 pX t).2
def ptB : RS := (ppR 1 beg1 0 (ptA t) pX).2.2
theorem pt_a : (wrR 0 beg0 pX t).1 = 0 := by kernel_rfl
theorem pt_b : (ppR 1 beg1 0 (ptA t) pX).1 = 1 ∧ (ppR 1 beg1 0 (ptA t) pX).2.1 = 0 := ⟨by kernel_rfl, by kernel_rfl⟩
/-- replica 0 has written again, or removed -/
def ptC : RS := (wrR 0 (ptA t) pX m).2
def ptD : RS := (rmR 0 (ptA t) pX).2
theorem pt_c : (wrR 0 (ptA t) pX m).1 = 0 := by kernel_rfl
theorem pt_d : (rmR 0 (ptA t) pX).1 = 0 := by kernel_rfl
/-- replica 1 has written too -/
def ptE : RS := (wrR 1 (ptB t) pX h).2
theorem pt_e : (wrR 1 (ptB t) pX h).1 = 0 := by kernel_rfl
-- way 0: both have written
theorem p0_v : (ppR 0 (ptC t m) 1 (ptE t h) pX).1 = 3 ∧ (ppR 0 (ptC t m) 1 (ptE t h) pX).2.1 = 0 := ⟨by kernel_rfl, by kernel_rfl⟩
def p0A : RS := (ppR 0 (ptC t m) 1 (ptE t h) pX).2.2
theorem p0_u : (ppR 1 (ptE t h) 0 (p0A t m h) pX).1 = 3 ∧ (ppR 1 (ptE t h) 0 (p0A t m h) pX).2.1 = 0 := ⟨by kernel_rfl, by kernel_rfl⟩
def p0B : RS := (ppR 1 (ptE t h) 0 (p0A t m h) pX).2.2
theorem p0_g : (rsR 0 (p0A t m h) 1 (p0B t m h) pX true).1 = 0 := by kernel_rfl
def p0C : RS := (rsR 0 (p0A t m h) 1 (p0B t m h) pX true).2
theorem p0_z : (ppR 1 (p0B t m h) 0 (p0C t m h) pX).1 = 1 ∧ (ppR 1 (p0B t m h) 0 (p0C t m h) pX).2.1 = 0 := ⟨by kernel_rfl, by kernel_rfl⟩
def p0D : RS := (ppR 1 (p0B t m h) 0 (p0C t m h) pX).2.2
theorem p0_s : rdR 0 (p0C t m h) pX = (h, 0) := by kernel_rfl
theorem p0_o : rdR 1 (p0D t m h) pX = (h, 0) := by kernel_rfl
-- way 1: replica 0 alone has written
theorem p1_v : (ppR 0 (ptC t m) 1 (ptB t) pX).1 = 0 ∧ (ppR 0 (ptC t m) 1 (ptB t) pX).2.1 = 0 := ⟨by kernel_rfl, by kernel_rfl⟩
def p1A : RS := (ppR 0 (ptC t m) 1 (ptB t) pX).2.2
theorem p1_u : (ppR 1 (ptB t) 0 (p1A t m) pX).1 = 1 ∧ (ppR 1 (ptB t) 0 (p1A t m) pX).2.1 = 0 := ⟨by kernel_rfl, by kernel_rfl⟩
-- way 2: replica 0 has removed, replica 1 has written
theorem p2_v : (ppR 0 (ptD t) 1 (ptE t h) pX).1 = 3 ∧ (ppR 0 (ptD t) 1 (ptE t h) pX).2.1 = 0 := ⟨by kernel_rfl, by kernel_rfl⟩
def p2A : RS := (ppR 0 (ptD t) 1 (ptE t h) pX).2.2
theorem p2_u : (ppR 1 (ptE t h) 0 (p2A t h) pX).1 = 3 ∧ (ppR 1 (ptE t h) 0 (p2A t h) pX).2.1 = 0 := ⟨by kernel_rfl, by kernel_rfl⟩
def p2B : RS := (ppR 1 (ptE t h) 0 (p2A t h) pX).2.2
theorem p2_g : (rsR 0 (p2A t h) 1 (p2B t h) pX true).1 = 0 := by kernel_rfl
def p2C : RS := (rsR 0 (p2A t h) 1 (p2B t h) pX true).2
theorem p2_z : (ppR 1 (p2B t h) 0 (p2C t h) pX).1 = 1 ∧ (ppR 1 (p2B t h) 0 (p2C t h) pX).2.1 = 0 := ⟨by kernel_rfl, by kernel_rfl⟩
def p2D : RS := (ppR 1 (p2B t h) 0 (p2C t h) pX).2.2
theorem p2_s : rdR 0 (p2C t h) pX = (h, 0) := by kernel_rfl
theorem p2_o : rdR 1 (p2D t h) pX = (h, 0) := by kernel_rfl
-- way 3: replica 0 has removed
theorem p3_v : (ppR 0 (ptD t) 1 (ptB t) pX).1 = 0 ∧ (ppR 0 (ptD t) 1 (ptB t) pX).2.1 = 0 := ⟨by kernel_rfl, by kernel_rfl⟩
def p3A : RS := (ppR 0 (ptD t) 1 (ptB t) pX).2.2
theorem p3_u : (ppR 1 (ptB t) 0 (p3A t) pX).1 = 2 ∧ (ppR 1 (ptB t) 0 (p3A t) pX).2.1 = 0 := ⟨by kernel_rfl, by kernel_rfl⟩
end
end Go.Proofs.YtaelaldmibgibaaGreat

namespace Go.Proofs.YtaelaldmibgibaaGreat
open Go.RowKit Go.Sim

def neCh (x y : Value) : Sem Value := binOp .neq 66 x y
theorem neChange (x y : Value) : binOp .neq 66 x y = neCh x y := rfl
theorem run_neCh (w : World) : (neCh (.agg #[.int .i64 1, .string ⟨#[102, 105, 114, 115, 116]⟩, .int .i64 1]) (.agg #[.int .i64 1, .string ⟨#[102, 105, 114, 115, 116]⟩, .int .i64 1])).run (twin Tryz.prog pl) w = .ok (.bool false) w := by kernel_rfl
@[simp] theorem q_call8 (args : Array Value) (w : World) : (callFunc 8 args).run (twin Tryz.prog pl) w = .ok (.enter 8 args) w := q_call (by decide) args w
@[simp] theorem q_call10 (args : Array Value) (w : World) : (callFunc 10 args).run (twin Tryz.prog pl) w = .ok (.enter 10 args) w := q_call (by decide) args w
@[simp] theorem q_call19 (args : Array Value) (w : World) : (callFunc 19 args).run (twin Tryz.prog pl) w = .ok (.enter 19 args) w := q_call (by decide) args w
@[simp] theorem q_call20 (args : Array Value) (w : World) : (callFunc 20 args).run (twin Tryz.prog pl) w = .ok (.enter 20 args) w := q_call (by decide) args w
@[simp] theorem q_call21 (args : Array Value) (w : World) : (callFunc 21 args).run (twin Tryz.prog pl) w = .ok (.enter 21 args) w := q_call (by decide) args w
@[simp] theorem q_call23 (args : Array Value) (w : World) : (callFunc 23 args).run (twin Tryz.prog pl) w = .ok (.enter 23 args) w := q_call (by decide) args w
@[simp] theorem q_call24 (args : Array Value) (w : World) : (callFunc 24 args).run (twin Tryz.prog pl) w = .ok (.enter 24 args) w := q_call (by decide) args w
@[simp] theorem q_call25 (args : Array Value) (w : World) : (callFunc 25 args).run (twin Tryz.prog pl) w = .ok (.enter 25 args) w := q_call (by decide) args w
@[simp] theorem q_call26 (args : Array Value) (w : World) : (callFunc 26 args).run (twin Tryz.prog pl) w = .ok (.enter 26 args) w := q_call (by decide) args w
@[simp] theorem q_call27 (args : Array Value) (w : World) : (callFunc 27 args).run (twin Tryz.prog pl) w = .ok (.enter 27 args) w := q_call (by decide) args w
attribute [local go_sem ↓] neChange
attribute [local go_sem] run_neCh
set_option maxRecDepth 100000 in
set_option maxHeartbeats 1000000 in
theorem begun_any (n : Nat) (h2 : 2 ≤ n) (h6 : n ≤ 6) (w : World) (hx : Fixed w) :
    Calls (twin Tryz.prog pl) 15 #[.int .i64 n] w fun e w' => e = .returned (.pointer (some ⟨w.heap.size, 0, none⟩)) ∧ Ne w w' w.heap.size (begS n) [] := by
  have e0 : (newS n)[0]? = some zero0 := by unfold newS; rw [List.getElem?_replicate, if_pos (by omega)]; rfl
  have e1 : ((newS n).set 0 beg0)[1]? = some zero0 := by rw [List.getElem?_set_ne (by omega)]; unfold newS; rw [List.getElem?_replicate, if_pos (by omega)]; rfl
  have hnl : (newS n).length = n := by simp [newS]
  have e2 : ((newS n).set 0 beg0)[0]? = some beg0 := by rw [List.getElem?_set_self (by omega)]
  have e3 : (begS n)[1]? = some beg1 := by unfold begS; rw [List.getElem?_set_self (by simp; omega)]
  have C1 := hide (eNew n w (by omega) h6 hx)
  have C2 : Hid (∀ V, Ne w V w.heap.size (newS n) [] → Calls (twin Tryz.prog pl) 10 #[.pointer (some ⟨w.heap.size, 0, none⟩), .int .i64 0, .string pFirst, .string pText] V fun e w' => e = .returned (.int .i64 0) ∧ Ne w w' w.heap.size ((newS n).set 0 beg0) []) := fun V hV => by
    refine (eWrite hV 0 e0 pFirst pText in_first (by decide)).mono ?_
    rintro e w' ⟨rfl, hN, _⟩
    exact ⟨by rw [beg_a], hN⟩
  have C3 : Hid (∀ V, Ne w V w.heap.size ((newS n).set 0 beg0) [] → Calls (twin Tryz.prog pl) 22 #[.pointer (some ⟨w.heap.size, 0, none⟩), .int .i64 1, .int .i64 0] V fun e w' => ∃ g cap, e = .returned (.tuple #[.slice (some ⟨g, 0, none⟩) 1 cap, .int .i64 0]) ∧ Ne w w' w.heap.size (begS n) [] ∧ w'.ownsRow 0 66 3 (.slice (some ⟨g, 0, none⟩) 1 cap) 1 [.int .i64 1, .string pFirst, .int .i64 1]) := fun V hV => by
    refine (ePull hV 1 0 (by omega) e1 e2).mono ?_
    rintro e w' ⟨rv, rfl, hN, _, hr⟩
    rw [beg_b]
    rw [beg_c] at hr
    obtain ⟨g, cap, rfl, _⟩ := World.ownsRow.form hr (by simp)
    exact ⟨g, cap, rfl, hN, ownsRow_base hr (fun _ _ => Nat.zero_le _)⟩
  have C4 : Hid (∀ V, Ne w V w.heap.size (begS n) [] → Calls (twin Tryz.prog pl) 25 #[.pointer (some ⟨w.heap.size, 0, none⟩), .int .i64 1, .string pFirst] V fun e w' => e = .returned (.tuple #[.string pText, .int .i64 0]) ∧ Ne w w' w.heap.size (begS n) [] ∧ Below V.heap.size V w') := fun V hV => by
    refine (eRead hV 1 e3 pFirst in_first).mono ?_
    rintro e w' ⟨rfl, hN, hb⟩
    rw [beg_d]
    exact ⟨rfl, hN, hb⟩
  unfold pFirst at C2 C3 C4
  unfold pText at C2 C4
  clear e0 e1 e2 e3 hx
  have eg : ∀ V, (eqGuard .neq 66 (.tmp 55) (.tmp 56) (.agg #[.int .i64 1, .string ⟨#[102, 105, 114, 115, 116]⟩, .int .i64 1]) (.agg #[.int .i64 1, .string ⟨#[102, 105, 114, 115, 116]⟩, .int .i64 1])).run (twin Tryz.prog pl) V = .ok () V := fun V => by kernel_rfl
  go_enter q_func15, Tryz.ntmps15
  go_wp2_with (first
    | (go_at_call 8; refine C1.out.mono ?_; rintro e w1 ⟨rfl, hN1⟩; have N1 := hide hN1; clear hN1)
    | (go_at_call 10; refine (C2.out _ N1.out).mono ?_; rintro e w2 ⟨rfl, hN2⟩; have N2 := hide hN2; clear hN2)
    | (go_at_call 22; refine (C3.out _ N2.out).mono ?_; rintro e w3 ⟨g, cap, rfl, hN3, ho3⟩; have N3 := hide hN3; have O3 := hide ho3; clear hN3 ho3)
    | (go_at_call 25; refine (C4.out _ N3.out).mono ?_; rintro e w4 ⟨rfl, hN4, hb4⟩; have N4 := hide hN4; have O4 := ownsRow_keep O3.out (fun k e => hb4.block k (World.ownsRow.lt O3.out k e).2); have k0 : w4.cell? ⟨g, 0, none⟩ = some (.int .i64 1) := (World.ownsRow.cellAt O4 0 (by decide)); have k1 : w4.cell? ⟨g, 1, none⟩ = some (.string ⟨#[102, 105, 114, 115, 116]⟩) := (World.ownsRow.cellAt O4 1 (by decide)); have k2 : w4.cell? ⟨g, 2, none⟩ = some (.int .i64 1) := (World.ownsRow.cellAt O4 2 (by decide)); clear hN4 hb4 O4))
  go_ret
  exact ⟨rfl, N4.out⟩
end Go.Proofs.YtaelaldmibgibaaGreat

namespace Go.Proofs.YtaelaldmibgibaaGreat
open Go.RowKit Go.Sim

set_option maxRecDepth 100000 in
set_option maxHeartbeats 2000000 in
theorem parted_0 (first mine theirs t m h : ByteArray) (ef : cutT first = t) (em : cutT mine = m) (eh : cutT theirs = h) (way : Int) (hw : -9223372036854775808 ≤ way ∧ way < 9223372036854775808) (hk : pickR way 4 = 0) (w : World) (hx : Fixed w) :
    Calls (twin Tryz.prog pl) 7 #[.string first, .string mine, .string theirs, .int .i64 way] w fun e w' => e = .returned (.bool true) ∧ Below w.heap.size w w' := by
  have ht : t.size ≤ 60 := by rw [← ef]; exact cutT_size _
  have hm : m.size ≤ 60 := by rw [← em]; exact cutT_size _
  have hh : h.size ≤ 60 := by rw [← eh]; exact cutT_size _
  have B0 := hide (begun_any 2 (by decide) (by decide) w hx)
  rw [begS_two] at B0
  have CF : Hid (∀ V, Calls (twin Tryz.prog pl) 20 #[.string first] V fun e w' => e = .returned (.string t) ∧ w' = V) := fun V => by rw [← ef]; exact qcut first V
  have CM : Hid (∀ V, Calls (twin Tryz.prog pl) 20 #[.string mine] V fun e w' => e = .returned (.string m) ∧ w' = V) := fun V => by rw [← em]; exact qcut mine V
  have CH : Hid (∀ V, Calls (twin Tryz.prog pl) 20 #[.string theirs] V fun e w' => e = .returned (.string h) ∧ w' = V) := fun V => by rw [← eh]; exact qcut theirs V
  have PI : Hid (∀ V, Calls (twin Tryz.prog pl) 14 #[.int .i64 way, .int .i64 4] V fun e w' => e = .returned (.int .i64 0) ∧ w' = V) := fun V => by rw [← hk]; exact qpick way 4 hw (by decide) V
  have S1 : Hid (∀ V, Ne w V w.heap.size [beg0, beg1] [] → Calls (twin Tryz.prog pl) 10 #[.pointer (some ⟨w.heap.size, 0, none⟩), .int .i64 0, .string pX, .string t] V fun e w' => e = .returned (.int .i64 0) ∧ Ne w w' w.heap.size [ptA t, beg1] []) := fun V hV => by
    refine (eWrite hV 0 rfl pX t in_x ht).mono ?_
    rintro e w' ⟨rfl, hN, _⟩
    exact ⟨by rw [pt_a], hN⟩
  have S2 : Hid (∀ V, Ne w V w.heap.size [ptA t, beg1] [] → Calls (twin Tryz.prog pl) 26 #[.pointer (some ⟨w.heap.size, 0, none⟩), .int .i64 1, .int .i64 0, .string pX] V fun e w' => e = .returned (.tuple #[.int .i64 1, .int .i64 0]) ∧ Ne w w' w.heap.size [ptA t, ptB t] []) := fun V hV => by
    refine (ePullPath hV 1 0 (by decide) rfl rfl pX in_x).mono ?_
    rintro e w' ⟨rfl, hN, _⟩
    exact ⟨by rw [(pt_b t).1, (pt_b t).2], hN⟩
  have S3 : Hid (∀ V, Ne w V w.heap.size [ptA t, ptB t] [] → Calls (twin Tryz.prog pl) 10 #[.pointer (some ⟨w.heap.size, 0, none⟩), .int .i64 0, .string pX, .string m] V fun e w' => e = .returned (.int .i64 0) ∧ Ne w w' w.heap.size [ptC t m, ptB t] []) := fun V hV => by
    refine (eWrite hV 0 rfl pX m in_x hm).mono ?_
    rintro e w' ⟨rfl, hN, _⟩
    exact ⟨by rw [pt_c], hN⟩
  have S4 : Hid (∀ V, Ne w V w.heap.size [ptC t m, ptB t] [] → Calls (twin Tryz.prog pl) 10 #[.pointer (some ⟨w.heap.size, 0, none⟩), .int .i64 1, .string pX, .string h] V fun e w' => e = .returned (.int .i64 0) ∧ Ne w w' w.heap.size [ptC t m, ptE t h] []) := fun V hV => by
    refine (eWrite hV 1 rfl pX h in_x hh).mono ?_
    rintro e w' ⟨rfl, hN, _⟩
    exact ⟨by rw [pt_e], hN⟩
  have S5 : Hid (∀ V, Ne w V w.heap.size [ptC t m, ptE t h] [] → Calls (twin Tryz.prog pl) 26 #[.pointer (some ⟨w.heap.size, 0, none⟩), .int .i64 0, .int .i64 1, .string pX] V fun e w' => e = .returned (.tuple #[.int .i64 3, .int .i64 0]) ∧ Ne w w' w.heap.size [p0A t m h, ptE t h] []) := fun V hV => by
    refine (ePullPath hV 0 1 (by decide) rfl rfl pX in_x).mono ?_
    rintro e w' ⟨rfl, hN, _⟩
    exact ⟨by rw [(p0_v t m h).1, (p0_v t m h).2], hN⟩
  have S6 : Hid (∀ V, Ne w V w.heap.size [p0A t m h, ptE t h] [] → Calls (twin Tryz.prog pl) 26 #[.pointer (some ⟨w.heap.size, 0, none⟩), .int .i64 1, .int .i64 0, .string pX] V fun e w' => e = .returned (.tuple #[.int .i64 3, .int .i64 0]) ∧ Ne w w' w.heap.size [p0A t m h, p0B t m h] []) := fun V hV => by
    refine (ePullPath hV 1 0 (by decide) rfl rfl pX in_x).mono ?_
    rintro e w' ⟨rfl, hN, _⟩
    exact ⟨by rw [(p0_u t m h).1, (p0_u t m h).2], hN⟩
  have S7 : Hid (∀ V, Ne w V w.heap.size [p0A t m h, p0B t m h] [] → Calls (twin Tryz.prog pl) 27 #[.pointer (some ⟨w.heap.size, 0, none⟩), .int .i64 0, .int .i64 1, .string pX, .bool true] V fun e w' => e = .returned (.int .i64 0) ∧ Ne w w' w.heap.size [p0C t m h, p0B t m h] []) := fun V hV => by
    refine (eResolve hV 0 1 (by decide) rfl rfl pX in_x true).mono ?_
    rintro e w' ⟨rfl, hN, _⟩
    exact ⟨by rw [p0_g], hN⟩
  have S8 : Hid (∀ V, Ne w V w.heap.size [p0C t m h, p0B t m h] [] → Calls (twin Tryz.prog pl) 26 #[.pointer (some ⟨w.heap.size, 0, none⟩), .int .i64 1, .int .i64 0, .string pX] V fun e w' => e = .returned (.tuple #[.int .i64 1, .int .i64 0]) ∧ Ne w w' w.heap.size [p0C t m h, p0D t m h] []) := fun V hV => by
    refine (ePullPath hV 1 0 (by decide) rfl rfl pX in_x).mono ?_
    rintro e w' ⟨rfl, hN, _⟩
    exact ⟨by rw [(p0_z t m h).1, (p0_z t m h).2], hN⟩
  have S9 : Hid (∀ V, Ne w V w.heap.size [p0C t m h, p0D t m h] [] → Calls (twin Tryz.prog pl) 25 #[.pointer (some ⟨w.heap.size, 0, none⟩), .int .i64 0, .string pX] V fun e w' => e = .returned (.tuple #[.string h, .int .i64 0]) ∧ Ne w w' w.heap.size [p0C t m h, p0D t m h] []) := fun V hV => by
    refine (eRead hV 0 rfl pX in_x).mono ?_
    rintro e w' ⟨rfl, hN, _⟩
    exact ⟨by rw [p0_s], hN⟩
  have S10 : Hid (∀ V, Ne w V w.heap.size [p0C t m h, p0D t m h] [] → Calls (twin Tryz.prog pl) 25 #[.pointer (some ⟨w.heap.size, 0, none⟩), .int .i64 1, .string pX] V fun e w' => e = .returned (.tuple #[.string h, .int .i64 0]) ∧ Ne w w' w.heap.size [p0C t m h, p0D t m h] []) := fun V hV => by
    refine (eRead hV 1 rfl pX in_x).mono ?_
    rintro e w' ⟨rfl, hN, _⟩
    exact ⟨by rw [p0_o], hN⟩
  unfold pX at S1 S2 S3 S4 S5 S6 S7 S8 S9 S10
  clear ef em eh hw hk hx ht hm hh
  go_enter q_func7, Tryz.ntmps7
  go_wp2_with (first
    | (go_at_call 15; refine B0.out.mono ?_; rintro e w0 ⟨rfl, hN⟩; have N0 := hide hN; clear hN)
    | (go_at_call 14; refine (PI.out _).mono ?_; rintro e wz ⟨rfl, rfl⟩)
    | (go_at_call_of 20 (Value.string first); refine (CF.out _).mono ?_; rintro e wz ⟨rfl, rfl⟩)
    | (go_at_call_of 20 (Value.string mine); refine (CM.out _).mono ?_; rintro e wz ⟨rfl, rfl⟩)
    | (go_at_call_of 20 (Value.string theirs); refine (CH.out _).mono ?_; rintro e wz ⟨rfl, rfl⟩)
    | (go_at_call 25; with_reducible refine (S10.out _ N9.out).mono ?_; rintro e w10 ⟨rfl, hN⟩; have N10 := hide hN; clear hN)
    | (go_at_call 25; with_reducible refine (S9.out _ N8.out).mono ?_; rintro e w9 ⟨rfl, hN⟩; have N9 := hide hN; clear hN)
    | (go_at_call 26; with_reducible refine (S8.out _ N7.out).mono ?_; rintro e w8 ⟨rfl, hN⟩; have N8 := hide hN; clear hN)
    | (go_at_call 27; with_reducible refine (S7.out _ N6.out).mono ?_; rintro e w7 ⟨rfl, hN⟩; have N7 := hide hN; clear hN)
    | (go_at_call 26; with_reducible refine (S6.out _ N5.out).mono ?_; rintro e w6 ⟨rfl, hN⟩; have N6 := hide hN; clear hN)
    | (go_at_call 26; with_reducible refine (S5.out _ N4.out).mono ?_; rintro e w5 ⟨rfl, hN⟩; have N5 := hide hN; clear hN)
    | (go_at_call 10; with_reducible refine (S4.out _ N3.out).mono ?_; rintro e w4 ⟨rfl, hN⟩; have N4 := hide hN; clear hN)
    | (go_at_call 10; with_reducible refine (S3.out _ N2.out).mono ?_; rintro e w3 ⟨rfl, hN⟩; have N3 := hide hN; clear hN)
    | (go_at_call 26; with_reducible refine (S2.out _ N1.out).mono ?_; rintro e w2 ⟨rfl, hN⟩; have N2 := hide hN; clear hN)
    | (go_at_call 10; with_reducible refine (S1.out _ N0.out).mono ?_; rintro e w1 ⟨rfl, hN⟩; have N1 := hide hN; clear hN))
  go_ret
  exact ⟨rfl, N10.out.bel⟩
set_option maxRecDepth 100000 in
set_option maxHeartbeats 2000000 in
theorem parted_1 (first mine theirs t m h : ByteArray) (ef : cutT first = t) (em : cutT mine = m) (eh : cutT theirs = h) (way : Int) (hw : -9223372036854775808 ≤ way ∧ way < 9223372036854775808) (hk : pickR way 4 = 1) (w : World) (hx : Fixed w) :
    Calls (twin Tryz.prog pl) 7 #[.string first, .string mine, .string theirs, .int .i64 way] w fun e w' => e = .returned (.bool true) ∧ Below w.heap.size w w' := by
  have ht : t.size ≤ 60 := by rw [← ef]; exact cutT_size _
  have hm : m.size ≤ 60 := by rw [← em]; exact cutT_size _
  have hh : h.size ≤ 60 := by rw [← eh]; exact cutT_size _
  have B0 := hide (begun_any 2 (by decide) (by decide) w hx)
  rw [begS_two] at B0
  have CF : Hid (∀ V, Calls (twin Tryz.prog pl) 20 #[.string first] V fun e w' => e = .returned (.string t) ∧ w' = V) := fun V => by rw [← ef]; exact qcut first V
  have CM : Hid (∀ V, Calls (twin Tryz.prog pl) 20 #[.string mine] V fun e w' => e = .returned (.string m) ∧ w' = V) := fun V => by rw [← em]; exact qcut mine V
  have CH : Hid (∀ V, Calls (twin Tryz.prog pl) 20 #[.string theirs] V fun e w' => e = .returned (.string h) ∧ w' = V) := fun V => by rw [← eh]; exact qcut theirs V
  have PI : Hid (∀ V, Calls (twin Tryz.prog pl) 14 #[.int .i64 way, .int .i64 4] V fun e w' => e = .returned (.int .i64 1) ∧ w' = V) := fun V => by rw [← hk]; exact qpick way 4 hw (by decide) V
  have S1 : Hid (∀ V, Ne w V w.heap.size [beg0, beg1] [] → Calls (twin Tryz.prog pl) 10 #[.pointer (some ⟨w.heap.size, 0, none⟩), .int .i64 0, .string pX, .string t] V fun e w' => e = .returned (.int .i64 0) ∧ Ne w w' w.heap.size [ptA t, beg1] []) := fun V hV => by
    refine (eWrite hV 0 rfl pX t in_x ht).mono ?_
    rintro e w' ⟨rfl, hN, _⟩
    exact ⟨by rw [pt_a], hN⟩
  have S2 : Hid (∀ V, Ne w V w.heap.size [ptA t, beg1] [] → Calls (twin Tryz.prog pl) 26 #[.pointer (some ⟨w.heap.size, 0, none⟩), .int .i64 1, .int .i64 0, .string pX] V fun e w' => e = .returned (.tuple #[.int .i64 1, .int .i64 0]) ∧ Ne w w' w.heap.size [ptA t, ptB t] []) := fun V hV => by
    refine (ePullPath hV 1 0 (by decide) rfl rfl pX in_x).mono ?_
    rintro e w' ⟨rfl, hN, _⟩
    exact ⟨by rw [(pt_b t).1, (pt_b t).2], hN⟩
  have S3 : Hid (∀ V, Ne w V w.heap.size [ptA t, ptB t] [] → Calls (twin Tryz.prog pl) 10 #[.pointer (some ⟨w.heap.size, 0, none⟩), .int .i64 0, .string pX, .string m] V fun e w' => e = .returned (.int .i64 0) ∧ Ne w w' w.heap.size [ptC t m, ptB t] []) := fun V hV => by
    refine (eWrite hV 0 rfl pX m in_x hm).mono ?_
    rintro e w' ⟨rfl, hN, _⟩
    exact ⟨by rw [pt_c], hN⟩
  have S4 : Hid (∀ V, Ne w V w.heap.size [ptC t m, ptB t] [] → Calls (twin Tryz.prog pl) 26 #[.pointer (some ⟨w.heap.size, 0, none⟩), .int .i64 0, .int .i64 1, .string pX] V fun e w' => e = .returned (.tuple #[.int .i64 0, .int .i64 0]) ∧ Ne w w' w.heap.size [p1A t m, ptB t] []) := fun V hV => by
    refine (ePullPath hV 0 1 (by decide) rfl rfl pX in_x).mono ?_
    rintro e w' ⟨rfl, hN, _⟩
    exact ⟨by rw [(p1_v t m).1, (p1_v t m).2], hN⟩
  have S5 : Hid (∀ V, Ne w V w.heap.size [p1A t m, ptB t] [] → Calls (twin Tryz.prog pl) 26 #[.pointer (some ⟨w.heap.size, 0, none⟩), .int .i64 1, .int .i64 0, .string pX] V fun e w' => e = .returned (.tuple #[.int .i64 1, .int .i64 0]) ∧ Ne w w' w.heap.size [p1A t m, (ppR 1 (ptB t) 0 (p1A t m) pX).2.2] []) := fun V hV => by
    refine (ePullPath hV 1 0 (by decide) rfl rfl pX in_x).mono ?_
    rintro e w' ⟨rfl, hN, _⟩
    exact ⟨by rw [(p1_u t m).1, (p1_u t m).2], hN⟩
  unfold pX at S1 S2 S3 S4 S5
  clear ef em eh hw hk hx ht hm hh
  go_enter q_func7, Tryz.ntmps7
  go_wp2_with (first
    | (go_at_call 15; refine B0.out.mono ?_; rintro e w0 ⟨rfl, hN⟩; have N0 := hide hN; clear hN)
    | (go_at_call 14; refine (PI.out _).mono ?_; rintro e wz ⟨rfl, rfl⟩)
    | (go_at_call_of 20 (Value.string first); refine (CF.out _).mono ?_; rintro e wz ⟨rfl, rfl⟩)
    | (go_at_call_of 20 (Value.string mine); refine (CM.out _).mono ?_; rintro e wz ⟨rfl, rfl⟩)
    | (go_at_call_of 20 (Value.string theirs); refine (CH.out _).mono ?_; rintro e wz ⟨rfl, rfl⟩)
    | (go_at_call 26; with_reducible refine (S5.out _ N4.out).mono ?_; rintro e w5 ⟨rfl, hN⟩; have N5 := hide hN; clear hN)
    | (go_at_call 26; with_reducible refine (S4.out _ N3.out).mono ?_; rintro e w4 ⟨rfl, hN⟩; have N4 := hide hN; clear hN)
    | (go_at_call 10; with_reducible refine (S3.out _ N2.out).mono ?_; rintro e w3 ⟨rfl, hN⟩; have N3 := hide hN; clear hN)
    | (go_at_call 26; with_reducible refine (S2.out _ N1.out).mono ?_; rintro e w2 ⟨rfl, hN⟩; have N2 := hide hN; clear hN)
    | (go_at_call 10; with_reducible refine (S1.out _ N0.out).mono ?_; rintro e w1 ⟨rfl, hN⟩; have N1 := hide hN; clear hN))
  go_ret
  exact ⟨rfl, N5.out.bel⟩
set_option maxRecDepth 100000 in
set_option maxHeartbeats 2000000 in
theorem parted_2 (first mine theirs t m h : ByteArray) (ef : cutT first = t) (em : cutT mine = m) (eh : cutT theirs = h) (way : Int) (hw : -9223372036854775808 ≤ way ∧ way < 9223372036854775808) (hk : pickR way 4 = 2) (w : World) (hx : Fixed w) :
    Calls (twin Tryz.prog pl) 7 #[.string first, .string mine, .string theirs, .int .i64 way] w fun e w' => e = .returned (.bool true) ∧ Below w.heap.size w w' := by
  have ht : t.size ≤ 60 := by rw [← ef]; exact cutT_size _
  have hm : m.size ≤ 60 := by rw [← em]; exact cutT_size _
  have hh : h.size ≤ 60 := by rw [← eh]; exact cutT_size _
  have B0 := hide (begun_any 2 (by decide) (by decide) w hx)
  rw [begS_two] at B0
  have CF : Hid (∀ V, Calls (twin Tryz.prog pl) 20 #[.string first] V fun e w' => e = .returned (.string t) ∧ w' = V) := fun V => by rw [← ef]; exact qcut first V
  have CM : Hid (∀ V, Calls (twin Tryz.prog pl) 20 #[.string mine] V fun e w' => e = .returned (.string m) ∧ w' = V) := fun V => by rw [← em]; exact qcut mine V
  have CH : Hid (∀ V, Calls (twin Tryz.prog pl) 20 #[.string theirs] V fun e w' => e = .returned (.string h) ∧ w' = V) := fun V => by rw [← eh]; exact qcut theirs V
  have PI : Hid (∀ V, Calls (twin Tryz.prog pl) 14 #[.int .i64 way, .int .i64 4] V fun e w' => e = .returned (.int .i64 2) ∧ w' = V) := fun V => by rw [← hk]; exact qpick way 4 hw (by decide) V
  have S1 : Hid (∀ V, Ne w V w.heap.size [beg0, beg1] [] → Calls (twin Tryz.prog pl) 10 #[.pointer (some ⟨w.heap.size, 0, none⟩), .int .i64 0, .string pX, .string t] V fun e w' => e = .returned (.int .i64 0) ∧ Ne w w' w.heap.size [ptA t, beg1] []) := fun V hV => by
    refine (eWrite hV 0 rfl pX t in_x ht).mono ?_
    rintro e w' ⟨rfl, hN, _⟩
    exact ⟨by rw [pt_a], hN⟩
  have S2 : Hid (∀ V, Ne w V w.heap.size [ptA t, beg1] [] → Calls (twin Tryz.prog pl) 26 #[.pointer (some ⟨w.heap.size, 0, none⟩), .int .i64 1, .int .i64 0, .string pX] V fun e w' => e = .returned (.tuple #[.int .i64 1, .int .i64 0]) ∧ Ne w w' w.heap.size [ptA t, ptB t] []) := fun V hV => by
    refine (ePullPath hV 1 0 (by decide) rfl rfl pX in_x).mono ?_
    rintro e w' ⟨rfl, hN, _⟩
    exact ⟨by rw [(pt_b t).1, (pt_b t).2], hN⟩
  have S3 : Hid (∀ V, Ne w V w.heap.size [ptA t, ptB t] [] → Calls (twin Tryz.prog pl) 21 #[.pointer (some ⟨w.heap.size, 0, none⟩), .int .i64 0, .string pX] V fun e w' => e = .returned (.int .i64 0) ∧ Ne w w' w.heap.size [ptD t, ptB t] []) := fun V hV => by
    refine (eRemove hV 0 rfl pX in_x).mono ?_
    rintro e w' ⟨rfl, hN, _⟩
    exact ⟨by rw [pt_d], hN⟩
  have S4 : Hid (∀ V, Ne w V w.heap.size [ptD t, ptB t] [] → Calls (twin Tryz.prog pl) 10 #[.pointer (some ⟨w.heap.size, 0, none⟩), .int .i64 1, .string pX, .string h] V fun e w' => e = .returned (.int .i64 0) ∧ Ne w w' w.heap.size [ptD t, ptE t h] []) := fun V hV => by
    refine (eWrite hV 1 rfl pX h in_x hh).mono ?_
    rintro e w' ⟨rfl, hN, _⟩
    exact ⟨by rw [pt_e], hN⟩
  have S5 : Hid (∀ V, Ne w V w.heap.size [ptD t, ptE t h] [] → Calls (twin Tryz.prog pl) 26 #[.pointer (some ⟨w.heap.size, 0, none⟩), .int .i64 0, .int .i64 1, .string pX] V fun e w' => e = .returned (.tuple #[.int .i64 3, .int .i64 0]) ∧ Ne w w' w.heap.size [p2A t h, ptE t h] []) := fun V hV => by
    refine (ePullPath hV 0 1 (by decide) rfl rfl pX in_x).mono ?_
    rintro e w' ⟨rfl, hN, _⟩
    exact ⟨by rw [(p2_v t h).1, (p2_v t h).2], hN⟩
  have S6 : Hid (∀ V, Ne w V w.heap.size [p2A t h, ptE t h] [] → Calls (twin Tryz.prog pl) 26 #[.pointer (some ⟨w.heap.size, 0, none⟩), .int .i64 1, .int .i64 0, .string pX] V fun e w' => e = .returned (.tuple #[.int .i64 3, .int .i64 0]) ∧ Ne w w' w.heap.size [p2A t h, p2B t h] []) := fun V hV => by
    refine (ePullPath hV 1 0 (by decide) rfl rfl pX in_x).mono ?_
    rintro e w' ⟨rfl, hN, _⟩
    exact ⟨by rw [(p2_u t h).1, (p2_u t h).2], hN⟩
  have S7 : Hid (∀ V, Ne w V w.heap.size [p2A t h, p2B t h] [] → Calls (twin Tryz.prog pl) 27 #[.pointer (some ⟨w.heap.size, 0, none⟩), .int .i64 0, .int .i64 1, .string pX, .bool true] V fun e w' => e = .returned (.int .i64 0) ∧ Ne w w' w.heap.size [p2C t h, p2B t h] []) := fun V hV => by
    refine (eResolve hV 0 1 (by decide) rfl rfl pX in_x true).mono ?_
    rintro e w' ⟨rfl, hN, _⟩
    exact ⟨by rw [p2_g], hN⟩
  have S8 : Hid (∀ V, Ne w V w.heap.size [p2C t h, p2B t h] [] → Calls (twin Tryz.prog pl) 26 #[.pointer (some ⟨w.heap.size, 0, none⟩), .int .i64 1, .int .i64 0, .string pX] V fun e w' => e = .returned (.tuple #[.int .i64 1, .int .i64 0]) ∧ Ne w w' w.heap.size [p2C t h, p2D t h] []) := fun V hV => by
    refine (ePullPath hV 1 0 (by decide) rfl rfl pX in_x).mono ?_
    rintro e w' ⟨rfl, hN, _⟩
    exact ⟨by rw [(p2_z t h).1, (p2_z t h).2], hN⟩
  have S9 : Hid (∀ V, Ne w V w.heap.size [p2C t h, p2D t h] [] → Calls (twin Tryz.prog pl) 25 #[.pointer (some ⟨w.heap.size, 0, none⟩), .int .i64 0, .string pX] V fun e w' => e = .returned (.tuple #[.string h, .int .i64 0]) ∧ Ne w w' w.heap.size [p2C t h, p2D t h] []) := fun V hV => by
    refine (eRead hV 0 rfl pX in_x).mono ?_
    rintro e w' ⟨rfl, hN, _⟩
    exact ⟨by rw [p2_s], hN⟩
  have S10 : Hid (∀ V, Ne w V w.heap.size [p2C t h, p2D t h] [] → Calls (twin Tryz.prog pl) 25 #[.pointer (some ⟨w.heap.size, 0, none⟩), .int .i64 1, .string pX] V fun e w' => e = .returned (.tuple #[.string h, .int .i64 0]) ∧ Ne w w' w.heap.size [p2C t h, p2D t h] []) := fun V hV => by
    refine (eRead hV 1 rfl pX in_x).mono ?_
    rintro e w' ⟨rfl, hN, _⟩
    exact ⟨by rw [p2_o], hN⟩
  unfold pX at S1 S2 S3 S4 S5 S6 S7 S8 S9 S10
  clear ef em eh hw hk hx ht hm hh
  go_enter q_func7, Tryz.ntmps7
  go_wp2_with (first
    | (go_at_call 15; refine B0.out.mono ?_; rintro e w0 ⟨rfl, hN⟩; have N0 := hide hN; clear hN)
    | (go_at_call 14; refine (PI.out _).mono ?_; rintro e wz ⟨rfl, rfl⟩)
    | (go_at_call_of 20 (Value.string first); refine (CF.out _).mono ?_; rintro e wz ⟨rfl, rfl⟩)
    | (go_at_call_of 20 (Value.string mine); refine (CM.out _).mono ?_; rintro e wz ⟨rfl, rfl⟩)
    | (go_at_call_of 20 (Value.string theirs); refine (CH.out _).mono ?_; rintro e wz ⟨rfl, rfl⟩)
    | (go_at_call 25; with_reducible refine (S10.out _ N9.out).mono ?_; rintro e w10 ⟨rfl, hN⟩; have N10 := hide hN; clear hN)
    | (go_at_call 25; with_reducible refine (S9.out _ N8.out).mono ?_; rintro e w9 ⟨rfl, hN⟩; have N9 := hide hN; clear hN)
    | (go_at_call 26; with_reducible refine (S8.out _ N7.out).mono ?_; rintro e w8 ⟨rfl, hN⟩; have N8 := hide hN; clear hN)
    | (go_at_call 27; with_reducible refine (S7.out _ N6.out).mono ?_; rintro e w7 ⟨rfl, hN⟩; have N7 := hide hN; clear hN)
    | (go_at_call 26; with_reducible refine (S6.out _ N5.out).mono ?_; rintro e w6 ⟨rfl, hN⟩; have N6 := hide hN; clear hN)
    | (go_at_call 26; with_reducible refine (S5.out _ N4.out).mono ?_; rintro e w5 ⟨rfl, hN⟩; have N5 := hide hN; clear hN)
    | (go_at_call 10; with_reducible refine (S4.out _ N3.out).mono ?_; rintro e w4 ⟨rfl, hN⟩; have N4 := hide hN; clear hN)
    | (go_at_call 21; with_reducible refine (S3.out _ N2.out).mono ?_; rintro e w3 ⟨rfl, hN⟩; have N3 := hide hN; clear hN)
    | (go_at_call 26; with_reducible refine (S2.out _ N1.out).mono ?_; rintro e w2 ⟨rfl, hN⟩; have N2 := hide hN; clear hN)
    | (go_at_call 10; with_reducible refine (S1.out _ N0.out).mono ?_; rintro e w1 ⟨rfl, hN⟩; have N1 := hide hN; clear hN))
  go_ret
  exact ⟨rfl, N10.out.bel⟩
set_option maxRecDepth 100000 in
set_option maxHeartbeats 2000000 in
theorem parted_3 (first mine theirs t m h : ByteArray) (ef : cutT first = t) (em : cutT mine = m) (eh : cutT theirs = h) (way : Int) (hw : -9223372036854775808 ≤ way ∧ way < 9223372036854775808) (hk : pickR way 4 = 3) (w : World) (hx : Fixed w) :
    Calls (twin Tryz.prog pl) 7 #[.string first, .string mine, .string theirs, .int .i64 way] w fun e w' => e = .returned (.bool true) ∧ Below w.heap.size w w' := by
  have ht : t.size ≤ 60 := by rw [← ef]; exact cutT_size _
  have hm : m.size ≤ 60 := by rw [← em]; exact cutT_size _
  have hh : h.size ≤ 60 := by rw [← eh]; exact cutT_size _
  have B0 := hide (begun_any 2 (by decide) (by decide) w hx)
  rw [begS_two] at B0
  have CF : Hid (∀ V, Calls (twin Tryz.prog pl) 20 #[.string first] V fun e w' => e = .returned (.string t) ∧ w' = V) := fun V => by rw [← ef]; exact qcut first V
  have CM : Hid (∀ V, Calls (twin Tryz.prog pl) 20 #[.string mine] V fun e w' => e = .returned (.string m) ∧ w' = V) := fun V => by rw [← em]; exact qcut mine V
  have CH : Hid (∀ V, Calls (twin Tryz.prog pl) 20 #[.string theirs] V fun e w' => e = .returned (.string h) ∧ w' = V) := fun V => by rw [← eh]; exact qcut theirs V
  have PI : Hid (∀ V, Calls (twin Tryz.prog pl) 14 #[.int .i64 way, .int .i64 4] V fun e w' => e = .returned (.int .i64 3) ∧ w' = V) := fun V => by rw [← hk]; exact qpick way 4 hw (by decide) V
  have S1 : Hid (∀ V, Ne w V w.heap.size [beg0, beg1] [] → Calls (twin Tryz.prog pl) 10 #[.pointer (some ⟨w.heap.size, 0, none⟩), .int .i64 0, .string pX, .string t] V fun e w' => e = .returned (.int .i64 0) ∧ Ne w w' w.heap.size [ptA t, beg1] []) := fun V hV => by
    refine (eWrite hV 0 rfl pX t in_x ht).mono ?_
    rintro e w' ⟨rfl, hN, _⟩
    exact ⟨by rw [pt_a], hN⟩
  have S2 : Hid (∀ V, Ne w V w.heap.size [ptA t, beg1] [] → Calls (twin Tryz.prog pl) 26 #[.pointer (some ⟨w.heap.size, 0, none⟩), .int .i64 1, .int .i64 0, .string pX] V fun e w' => e = .returned (.tuple #[.int .i64 1, .int .i64 0]) ∧ Ne w w' w.heap.size [ptA t, ptB t] []) := fun V hV => by
    refine (ePullPath hV 1 0 (by decide) rfl rfl pX in_x).mono ?_
    rintro e w' ⟨rfl, hN, _⟩
    exact ⟨by rw [(pt_b t).1, (pt_b t).2], hN⟩
  have S3 : Hid (∀ V, Ne w V w.heap.size [ptA t, ptB t] [] → Calls (twin Tryz.prog pl) 21 #[.pointer (some ⟨w.heap.size, 0, none⟩), .int .i64 0, .string pX] V fun e w' => e = .returned (.int .i64 0) ∧ Ne w w' w.heap.size [ptD t, ptB t] []) := fun V hV => by
    refine (eRemove hV 0 rfl pX in_x).mono ?_
    rintro e w' ⟨rfl, hN, _⟩
    exact ⟨by rw [pt_d], hN⟩
  have S4 : Hid (∀ V, Ne w V w.heap.size [ptD t, ptB t] [] → Calls (twin Tryz.prog pl) 26 #[.pointer (some ⟨w.heap.size, 0, none⟩), .int .i64 0, .int .i64 1, .string pX] V fun e w' => e = .returned (.tuple #[.int .i64 0, .int .i64 0]) ∧ Ne w w' w.heap.size [p3A t, ptB t] []) := fun V hV => by
    refine (ePullPath hV 0 1 (by decide) rfl rfl pX in_x).mono ?_
    rintro e w' ⟨rfl, hN, _⟩
    exact ⟨by rw [(p3_v t).1, (p3_v t).2], hN⟩
  have S5 : Hid (∀ V, Ne w V w.heap.size [p3A t, ptB t] [] → Calls (twin Tryz.prog pl) 26 #[.pointer (some ⟨w.heap.size, 0, none⟩), .int .i64 1, .int .i64 0, .string pX] V fun e w' => e = .returned (.tuple #[.int .i64 2, .int .i64 0]) ∧ Ne w w' w.heap.size [p3A t, (ppR 1 (ptB t) 0 (p3A t) pX).2.2] []) := fun V hV => by
    refine (ePullPath hV 1 0 (by decide) rfl rfl pX in_x).mono ?_
    rintro e w' ⟨rfl, hN, _⟩
    exact ⟨by rw [(p3_u t).1, (p3_u t).2], hN⟩
  unfold pX at S1 S2 S3 S4 S5
  clear ef em eh hw hk hx ht hm hh
  go_enter q_func7, Tryz.ntmps7
  go_wp2_with (first
    | (go_at_call 15; refine B0.out.mono ?_; rintro e w0 ⟨rfl, hN⟩; have N0 := hide hN; clear hN)
    | (go_at_call 14; refine (PI.out _).mono ?_; rintro e wz ⟨rfl, rfl⟩)
    | (go_at_call_of 20 (Value.string first); refine (CF.out _).mono ?_; rintro e wz ⟨rfl, rfl⟩)
    | (go_at_call_of 20 (Value.string mine); refine (CM.out _).mono ?_; rintro e wz ⟨rfl, rfl⟩)
    | (go_at_call_of 20 (Value.string theirs); refine (CH.out _).mono ?_; rintro e wz ⟨rfl, rfl⟩)
    | (go_at_call 26; with_reducible refine (S5.out _ N4.out).mono ?_; rintro e w5 ⟨rfl, hN⟩; have N5 := hide hN; clear hN)
    | (go_at_call 26; with_reducible refine (S4.out _ N3.out).mono ?_; rintro e w4 ⟨rfl, hN⟩; have N4 := hide hN; clear hN)
    | (go_at_call 21; with_reducible refine (S3.out _ N2.out).mono ?_; rintro e w3 ⟨rfl, hN⟩; have N3 := hide hN; clear hN)
    | (go_at_call 26; with_reducible refine (S2.out _ N1.out).mono ?_; rintro e w2 ⟨rfl, hN⟩; have N2 := hide hN; clear hN)
    | (go_at_call 10; with_reducible refine (S1.out _ N0.out).mono ?_; rintro e w1 ⟨rfl, hN⟩; have N1 := hide hN; clear hN))
  go_ret
  exact ⟨rfl, N5.out.bel⟩
theorem parted_any (first mine theirs : ByteArray) (way : Int) (hw : -9223372036854775808 ≤ way ∧ way < 9223372036854775808) (w : World) (hx : Fixed w) :
    Calls (twin Tryz.prog pl) 7 #[.string first, .string mine, .string theirs, .int .i64 way] w fun e w' => e = .returned (.bool true) ∧ Below w.heap.size w w' := by
  have h := pickR_lt way 4 (by decide)
  rcases (by omega : pickR way 4 = 0 ∨ pickR way 4 = 1 ∨ pickR way 4 = 2 ∨ pickR way 4 = 3) with hk | hk | hk | hk
  · exact parted_0 first mine theirs _ _ _ rfl rfl rfl way hw hk w hx
  · exact parted_1 first mine theirs _ _ _ rfl rfl rfl way hw hk w hx
  · exact parted_2 first mine theirs _ _ _ rfl rfl rfl way hw hk w hx
  · exact parted_3 first mine theirs _ _ _ rfl rfl rfl way hw hk w hx
end Go.Proofs.YtaelaldmibgibaaGreat
