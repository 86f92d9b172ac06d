/- The twin: a pull of all. Scripts of the statements that do not ask the document's answer: what a step does to the states (pure). A pull of all, path by path (pure): what it leaves, what it tells. What holds of all files of all replicas, whatever the script (pure): a version has its birth among its changes; one version, one text. Where all pull from all and nothing is told, all have the same files (pure). A round of pulls that tells nothing: what is known behind each pull (pure). The program's net: List of a replica that there is; the same in the twin. A net that copies a file: what begun answers (pure). -/
import Derived.Test.YtaelaldmibgibaaGreatS30
import Derived.Test.YtaelaldmibgibaaGreatS31
import Derived.Test.YtaelaldmibgibaaGreatS27
import Derived.Test.YtaelaldmibgibaaGreatS29

set_option linter.unusedVariables false
set_option linter.unusedSimpArgs false
set_option linter.unusedSectionVars false

namespace Go.Proofs.YtaelaldmibgibaaGreat
open Go.RowKit Go.Sim

def plR (s : Nat) (x : RS) (s' : Nat) (y : RS) : Int × RS × List (ByteArray × Int) :=
  if 20 < (thereE (allP s x.cm x.E s' y.cm y.E).1).length then (5, x, []) else (0, ⟨gboth x.cm y.cm, (allP s x.cm x.E s' y.cm y.E).1⟩, (allP s x.cm x.E s' y.cm y.E).2)
theorem chv_one (s : Nat) (l : List (ByteArray × Int)) : ∀ u ∈ chv s l, u.oneCell' = true := by
  intro u hu
  unfold chv at hu
  obtain ⟨l', hl, hu⟩ := List.mem_flatten.1 hu
  obtain ⟨x, _, rfl⟩ := List.mem_map.1 hl
  simp at hu
  rcases hu with rfl | rfl | rfl <;> rfl
theorem nodup_set {l : List Nat} (h : l.Nodup) {a x : Nat} (hx : x ∉ l) : (l.set a x).Nodup := by
  apply nodup_of
  intro i j v hi hj
  rw [List.getElem?_set] at hi hj
  split at hi
  · next e1 =>
    split at hj
    · next e2 => omega
    · split at hi
      · cases hi
        exact absurd (List.mem_of_getElem? hj) hx
      · cases hi
  · split at hj
    · split at hj
      · cases hj
        exact absurd (List.mem_of_getElem? hi) hx
      · cases hj
    · rcases Nat.decEq i j with q | q
      · exact absurd rfl (getElem_ne h hi hj q)
      · exact q
theorem set_self {S : List RS} {a : Nat} {x : RS} (h : S[a]? = some x) : S.set a x = S := by
  apply List.ext_getElem?
  intro i
  rw [List.getElem?_set]
  split
  · next e =>
    subst e
    rw [if_pos (List.getElem?_eq_some_iff.1 h).1, h]
  · rfl
theorem mem_set_or {l : List Nat} {a x k : Nat} (h : k ∈ l.set a x) : k = x ∨ k ∈ l := by
  rcases List.mem_or_eq_of_mem_set h with q | q
  · exact .inr q
  · exact .inl q
theorem Nt.put {w : World} {nb pb : Nat} {L : List (Nat × Nat)} {S : List RS} (h : Nt w nb pb L S) {a : Nat} {u : Nat × Nat} (hu : L[a]? = some u) {B ab am : Nat} {s' : RS} (hr : Rg w ab a s'.cm am s'.E) (hab : ab ≠ am) (h1 : nb < B) (h2 : pb < B) (h3 : ∀ x ∈ L, x.1 < B ∧ x.2 < B) (h4 : B ≤ ab) (h5 : B ≤ am) :
    Nt (w.setCell ⟨pb, a, none⟩ (.pointer (some ⟨ab, 0, none⟩))) nb pb (L.set a (ab, am)) (S.set a s') := by
  have hf : Fr (fun k => k = pb) w (w.setCell ⟨pb, a, none⟩ (.pointer (some ⟨ab, 0, none⟩))) := (Fr.refl (fun k => k = pb) w).setCell (p := ⟨pb, a, none⟩) (.inl rfl) _
  have hap := h.apart
  have hnp : nb ≠ pb := by
    simp only [List.nodup_cons, List.mem_cons, not_or] at hap
    exact hap.1.1
  obtain ⟨cur, hcur⟩ := h.pbk
  have hal : a < L.length := (List.getElem?_eq_some_iff.1 hu).1
  refine ⟨?_, fun i x s hi hs => ?_, Nat.lt_of_lt_of_le h.nlt hf.size, Nat.lt_of_lt_of_le h.plt hf.size, ?_, ⟨_, heap_setCell_same _ _ _ _ _ _ hcur⟩⟩
  · rw [List.length_set]
    obtain ⟨cap, hc⟩ := h.net.blk
    refine ⟨⟨cap, by rw [hf.block nb h.nlt hnp]; exact hc⟩, by rw [List.length_map, List.length_set]; have := h.net.len; simpa using this, fun r b hb => ?_, h.net.n6⟩
    rw [List.getElem?_map, List.getElem?_set] at hb
    have old : ∀ r b, (L.map (·.1))[r]? = some b → cur[r]? = some (Value.pointer (some ⟨b, 0, none⟩)) := fun r b hb => by
      have := h.net.row r b hb
      simpa [World.cell?, hcur] using this
    have hsz : a < cur.size := by
      have := old a u.1 (by rw [List.getElem?_map, hu]; rfl)
      exact (Array.getElem?_eq_some_iff.1 this).1
    simp only [World.cell?, heap_setCell_same _ _ _ _ _ _ hcur]
    split at hb
    · next e =>
      subst e
      simp at hb
      subst hb
      simp [hsz]
    · next e =>
      have := old r b (by rw [List.getElem?_map]; exact hb)
      simp only [Array.getElem?_setIfInBounds_ne e]
      exact this
  · by_cases e : a = i
    · subst e
      rw [List.getElem?_set_self hal] at hi
      cases hi
      have hsl : a < S.length := by have := h.len; omega
      rw [List.getElem?_set_self hsl] at hs
      cases hs
      exact hr.keep (hf.block _ hr.rep.lt (fun e => by have : ab = pb := e; omega)) (hf.block _ hr.own.lt (fun e => by have : am = pb := e; omega))
    · rw [List.getElem?_set_ne e] at hi hs
      have q := h.rep i x s hi hs
      obtain ⟨n1, n2, n3, n4⟩ := h.ne hi
      exact q.keep (hf.block _ q.rep.lt (fun e => n3 e.symm)) (hf.block _ q.own.lt (fun e => n4 e.symm))
  · have hb1 : ∀ k ∈ L.map (·.1), k < B := fun k hk => by obtain ⟨x, hx, rfl⟩ := List.mem_map.1 hk; exact (h3 x hx).1
    have hb2 : ∀ k ∈ L.map (·.2), k < B := fun k hk => by obtain ⟨x, hx, rfl⟩ := List.mem_map.1 hk; exact (h3 x hx).2
    rw [List.map_set, List.map_set]
    simp only [List.nodup_cons, List.nodup_append, List.mem_cons, List.mem_append, not_or] at hap ⊢
    obtain ⟨⟨a1, a2, a3⟩, ⟨a4, a5⟩, a6, a7, a8⟩ := hap
    refine ⟨⟨a1, fun q => ?_, fun q => ?_⟩, ⟨fun q => ?_, fun q => ?_⟩, nodup_set a6 (fun q => by have := hb1 _ q; omega), nodup_set a7 (fun q => by have := hb2 _ q; omega), fun k hk j hj e => ?_⟩
    · rcases mem_set_or q with e | e
      · omega
      · exact a2 e
    · rcases mem_set_or q with e | e
      · omega
      · exact a3 e
    · rcases mem_set_or q with e | e
      · omega
      · exact a4 e
    · rcases mem_set_or q with e | e
      · omega
      · exact a5 e
    · subst e
      rcases mem_set_or hk with e1 | e1
      · rcases mem_set_or hj with e2 | e2
        · omega
        · have := hb2 _ e2; omega
      · rcases mem_set_or hj with e2 | e2
        · have := hb1 _ e1; omega
        · exact a8 k e1 k e2 rfl
theorem aw_below (V : World) (nb : Nat) (a b : Int) : Below V.heap.size V (atWork V nb a b) := by
  unfold atWork
  refine Below.alloc (Below.alloc (Below.alloc (Below.alloc (Below.alloc (Below.alloc (Below.alloc (Below.alloc (Below.refl _ _) ?_ _) ?_ _) ?_ _) ?_ _) ?_ _) ?_ _) ?_ _) ?_ _ <;> simp <;> omega
theorem aw_size (V : World) (nb : Nat) (a b : Int) : (atWork V nb a b).heap.size = V.heap.size + 8 := by simp [atWork]
theorem aw_fixed {V : World} (h : Fixed V) (nb : Nat) (a b : Int) : Fixed (atWork V nb a b) :=
  Fixed.alloc (Fixed.alloc (Fixed.alloc (Fixed.alloc (Fixed.alloc (Fixed.alloc (Fixed.alloc (Fixed.alloc h _ _) _ _) _ _) _ _) _ _) _ _) _ _) _ _
theorem aw_at (V : World) (nb : Nat) (a b : Int) (k : Nat) : (atWork V nb a b).heap[V.heap.size + k]? = (#[Obj.cells #[.pointer (some ⟨nb, 0, none⟩)] 23, .cells #[.pointer none, .slice none 0 0, .int .i64 0] 137, .cells #[.slice (some ⟨V.heap.size + 1, 0, none⟩) 1 1] 134, .cells #[] 160, .cells #[.int .i64 0] 3, .cells #[.int .i64 a, .int .i64 b] 100, .cells #[] 172, .cells #[] 1])[k]? := by
  have e : (atWork V nb a b).heap = V.heap ++ #[Obj.cells #[.pointer (some ⟨nb, 0, none⟩)] 23, .cells #[.pointer none, .slice none 0 0, .int .i64 0] 137, .cells #[.slice (some ⟨V.heap.size + 1, 0, none⟩) 1 1] 134, .cells #[] 160, .cells #[.int .i64 0] 3, .cells #[.int .i64 a, .int .i64 b] 100, .cells #[] 172, .cells #[] 1] := by
    unfold atWork World.alloc
    apply Array.toList_inj.1
    simp only [Array.toList_push, Array.toList_append, List.append_assoc, List.cons_append, List.nil_append]
  rw [e, Array.getElem?_append_right (by omega), Nat.add_sub_cancel_left]
theorem aw_cell (V : World) (nb : Nat) (a b : Int) (k : Nat) {cs : Array Value} {ty : TypeId} (h : (#[Obj.cells #[.pointer (some ⟨nb, 0, none⟩)] 23, .cells #[.pointer none, .slice none 0 0, .int .i64 0] 137, .cells #[.slice (some ⟨V.heap.size + 1, 0, none⟩) 1 1] 134, .cells #[] 160, .cells #[.int .i64 0] 3, .cells #[.int .i64 a, .int .i64 b] 100, .cells #[] 172, .cells #[] 1] : Array Obj)[k]? = some (.cells cs ty)) (o : Nat) : (atWork V nb a b).cell? ⟨V.heap.size + k, o, none⟩ = cs[o]? := by
  simp [World.cell?, aw_at, h]
def P3s (W0 : World) (nb a b : Nat) (cm : Nat → Int) (A : Recs × List (ByteArray × Int)) (gb : Nat) (V' : World) : Prop :=
  ∃ V, Below W0.heap.size W0 V ∧ gb = V.heap.size + 1 ∧ PullLeft (atWork V nb a b) V' gb a cm A ∧ Fr (fun k => k = gb) (atWork V nb a b) V'
theorem P3s.below {W0 : World} {nb a b : Nat} {cm : Nat → Int} {A : Recs × List (ByteArray × Int)} {gb : Nat} {V' : World} (h : P3s W0 nb a b cm A gb V') : Below W0.heap.size W0 V' := by
  obtain ⟨V, h1, rfl, _, hf⟩ := h
  have h2 := h1.trans ((aw_below V nb a b).mono h1.size)
  have hs := h1.size
  exact ⟨hf.os.trans h2.os, hf.tape.trans h2.tape, hf.output.trans h2.output, Nat.le_trans h2.size hf.size, fun k hk => (hf.block k (by have := h2.size; omega) (by omega)).trans (h2.block k hk)⟩
theorem P3s.size {W0 : World} {nb a b : Nat} {cm : Nat → Int} {A : Recs × List (ByteArray × Int)} {gb : Nat} {V' : World} (h : P3s W0 nb a b cm A gb V') : W0.heap.size ≤ V'.heap.size := h.below.size
set_option maxHeartbeats 1000000 in
theorem npulls {nb pb : Nat} {L : List (Nat × Nat)} {S : List RS} {w : World} (h : Nt w nb pb L S) (hF : Fixed w) (a b : Nat) (hab : a ≠ b) {u v : Nat × Nat} {x y : RS} (hu : L[a]? = some u) (hv : L[b]? = some v) (hx : S[a]? = some x) (hy : S[b]? = some y)
    (hl : x.E.length + y.E.length < 900000) (hk : ∀ e ∈ x.E, e.1.size ≤ 1000000) (hk' : ∀ e ∈ y.E, e.1.size ≤ 1000000) :
    Calls (twin Tryz.prog pl) 22 #[.pointer (some ⟨nb, 0, none⟩), .int .i64 a, .int .i64 b] w fun e w' => ∃ rv r2, e = .returned (.tuple #[rv, r2]) ∧ r2 = .int .i64 (plR a x b y).1 ∧ ∃ L', Nt w' nb pb L' (S.set a (plR a x b y).2.1) ∧ w'.ownsRow w.heap.size 66 3 rv (plR a x b y).2.2.length (chv a (plR a x b y).2.2) ∧ Fr (fun k => k = pb) w w' ∧ ∀ x ∈ L', x ∈ L ∨ (w.heap.size ≤ x.1 ∧ w.heap.size ≤ x.2) := by
  refine qpull nb a b w _ ?_
  have hal : a < S.length := (List.getElem?_eq_some_iff.1 hx).1
  have hbl : b < S.length := (List.getElem?_eq_some_iff.1 hy).1
  have n6 := h.net.n6
  have hok : okP S.length a b = true := by
    unfold okP
    simp only [Bool.and_eq_true, decide_eq_true_eq, Bool.not_eq_true', beq_eq_false_iff_ne]
    omega
  generalize hW : w.alloc (.cells #[.int .i64 (a : Int), .int .i64 (b : Int)] 100) = W0
  have bW : Below w.heap.size w W0 := by rw [← hW]; exact (Below.refl _ _).alloc (Nat.le_refl _) _
  have fW : Fixed W0 := by rw [← hW]; exact Fixed.alloc hF _ _
  have sW : W0.heap.size = w.heap.size + 1 := by rw [← hW]; simp
  have g0 : W0.cell? ⟨w.heap.size, 0, none⟩ = some (.int .i64 a) := by rw [← hW]; simp only [World.cell?, heap_alloc_new]; rfl
  have g1 : W0.cell? ⟨w.heap.size, 1, none⟩ = some (.int .i64 b) := by rw [← hW]; simp only [World.cell?, heap_alloc_new]; rfl
  clear hW
  have cellW : ∀ V, Below W0.heap.size W0 V → V.cell? ⟨w.heap.size, 0, none⟩ = some (.int .i64 a) ∧ V.cell? ⟨w.heap.size, 1, none⟩ = some (.int .i64 b) := fun V hV => ⟨(hV.cell (p := ⟨w.heap.size, 0, none⟩) (by simp only; omega)).trans g0, (hV.cell (p := ⟨w.heap.size, 1, none⟩) (by simp only; omega)).trans g1⟩
  have belW : ∀ V, Below W0.heap.size W0 V → Below w.heap.size w V := fun V hV => bW.trans (hV.mono bW.size)
  have h1 : Calls (twin Tryz.prog pl) 62 #[.pointer (some ⟨nb, 0, none⟩), .slice (some ⟨w.heap.size, 0, none⟩) 1 1] W0 fun e w' => e = .returned (.bool true) ∧ (Below W0.heap.size W0 w' ∧ Fixed w') := by
    have hN := h.below bW
    refine (shared.calls (by decide) fW (arePairs_one nb S.length pb (L.map (·.1)) w.heap.size 1 a b W0 hN.net hN.nlt hN.plt (by omega) g0 g1) (fun e w' h => ⟨_, h.1⟩)).mono ?_
    rintro e w' ⟨⟨rfl, hb⟩, hf⟩
    rw [hok]
    exact ⟨rfl, hb, hf⟩
  have h2 : ∀ V, (Below W0.heap.size W0 V ∧ Fixed V) → Calls (twin Tryz.prog pl) 63 #[.slice (some ⟨w.heap.size, 0, none⟩) 1 1] V fun e w' => e = .returned (.bool true) ∧ (Below W0.heap.size W0 w' ∧ Fixed w') := by
    rintro V ⟨hb, hf⟩
    refine (shared.calls (by decide) hf (areApart_one w.heap.size 1 a b (by omega) (by omega) V (by have := hb.size; omega) (cellW V hb).1 (cellW V hb).2) (fun e w' h => ⟨_, h.1⟩)).mono ?_
    rintro e w' ⟨⟨rfl, hb'⟩, hf'⟩
    exact ⟨rfl, hb.trans (hb'.mono hb.size), hf'⟩
  have h3 : ∀ V, (Below W0.heap.size W0 V ∧ Fixed V) → Calls (twin Tryz.prog pl) 64 #[.pointer (some ⟨nb, 0, none⟩), .slice (some ⟨w.heap.size, 0, none⟩) 1 1] V fun e w' => ∃ gb, e = .returned (.slice (some ⟨gb, 0, none⟩) 1 1) ∧ P3s W0 nb a b (gboth x.cm y.cm) (allP a x.cm x.E b y.cm y.E) gb w' := by
    rintro V ⟨hb, hf⟩
    have hN := (h.below (belW V hb)).below (aw_below V nb a b)
    refine (qpulls_one nb w.heap.size 1 a b V (cellW V hb).1 (cellW V hb).2 (by have := hb.size; omega) (fun w' => P3s W0 nb a b (gboth x.cm y.cm) (allP a x.cm x.E b y.cm y.E) (V.heap.size + 1) w') ?_).mono (fun e w' h => ⟨_, h.1, h.2⟩)
    refine (shared.calls (by decide) (aw_fixed hf nb a b) (work_any V.heap.size (V.heap.size + 5) (V.heap.size + 2) (V.heap.size + 4) (V.heap.size + 1) hN a b hu hv hx hy hl hk hk' (aw_cell V nb a b 0 rfl 0) (aw_cell V nb a b 5 rfl 0) (aw_cell V nb a b 5 rfl 1) (aw_cell V nb a b 2 rfl 0) (aw_cell V nb a b 4 rfl 0) (aw_at V nb a b 1)) (fun e w' h => ⟨_, h.1⟩)).mono ?_
    rintro e w' ⟨⟨rfl, hp, hfr⟩, _⟩
    refine ⟨rfl, ?_, V, hb, rfl, hp, hfr⟩
    rw [World.cell?_of_block (w := atWork V nb a b) (hfr.block (V.heap.size + 2) (by rw [aw_size]; omega) (by omega))]
    exact aw_cell V nb a b 2 rfl 0
  by_cases hfull : 20 < (thereE (allP a x.cm x.E b y.cm y.E).1).length
  · have ep : plR a x b y = (5, x, []) := by unfold plR; rw [if_pos hfull]
    rw [ep]
    refine (qround_full nb w.heap.size 1 W0 h1 h2 h3 (fun gb V hP => ?_)).mono ?_
    · obtain ⟨V0, _, _, hp | hp, _⟩ := hP
      · exact hp.2
      · omega
    · rintro e w' ⟨rfl, gb, V, hP, hb⟩
      have hb' := hP.below
      have hbw := belW w' (hb'.trans (hb.mono hb'.size))
      refine ⟨_, _, rfl, rfl, L, ?_, World.ownsRow_nil _ _ _ _, Fr.of_below hbw, fun x hx => .inl hx⟩
      rw [set_self hx]
      exact h.below hbw
  · have ep : plR a x b y = (0, ⟨gboth x.cm y.cm, (allP a x.cm x.E b y.cm y.E).1⟩, (allP a x.cm x.E b y.cm y.E).2) := by unfold plR; rw [if_neg hfull]
    rw [ep]
    obtain ⟨cap, hc⟩ := h.net.blk
    obtain ⟨cur, hcur⟩ := h.pbk
    have hm : (allP a x.cm x.E b y.cm y.E).2.length ≤ 1000000 := by
      have q1 := (accP_len a x.cm x.E b y.cm y.E (unionK (x.E.map (·.1)) (y.E.map (·.1))) ([], [])).2
      have q2 := union_len (y.E.map (·.1)) (x.E.map (·.1))
      rw [List.length_map, List.length_map] at q2
      show ((unionK (x.E.map (·.1)) (y.E.map (·.1))).foldl (stepA a x.cm x.E b y.cm y.E) ([], [])).2.length ≤ _
      simp only [List.length_nil] at q1
      omega
    have hLB : ∀ x ∈ L, x.1 < w.heap.size ∧ x.2 < w.heap.size := fun z hz => by
      obtain ⟨i, hi⟩ := List.getElem?_of_mem hz
      have hil : i < S.length := by have := (List.getElem?_eq_some_iff.1 hi).1; have := h.len; omega
      have q := h.rep i z _ hi (List.getElem?_eq_getElem hil)
      exact ⟨q.rep.lt, q.own.lt⟩
    refine (qround_ok nb w.heap.size 1 W0 a pb S.length cap (allP a x.cm x.E b y.cm y.E).2.length (chv a (allP a x.cm x.E b y.cm y.E).2) n6 hal h1 h2 h3 (fun gb V hP => ?_)).mono ?_
    · have hbV := belW V hP.below
      have hcl := (cellW V hP.below).1
      have hsz := hP.size
      obtain ⟨V0, hV0, rfl, hp | ⟨hle, ab, am, z, cv, q1, q2, q3, q4, q5, q6, q7, q8, q9⟩, hfr⟩ := hP
      · omega
      · refine ⟨ab, z, cv, q1, q3, chv_one _ _, hm, fun e => q9 (List.length_eq_zero_iff.1 e), ?_, hcl, ⟨_, (h.below hbV).net.row a u.1 (by rw [List.getElem?_map, hu]; rfl)⟩, ?_, Nat.lt_of_lt_of_le h.nlt hbV.size, Nat.lt_of_lt_of_le h.plt hbV.size, by omega⟩
        · rw [hbV.cell (p := ⟨nb, 0, none⟩) h.nlt]
          simp [World.cell?, hc]
        · simp [World.frozen?, hbV.block pb h.plt, hcur]
    · rintro e w' ⟨gb, V, V', ab, z, cv, rv, rfl, hP, hg, hown, hB, hR, rfl⟩
      have hbV := hP.below
      have hbV' := belW V' (hbV.trans (hB.mono hbV.size))
      have hsz := hP.size
      obtain ⟨V0, hV0, rfl, hp | ⟨hle, ab', am, z', cv', q1, q2, q3, q4, q5, q6, q7, q8, q9⟩, hfr⟩ := hP
      · omega
      · rw [hg] at q1
        simp only [Option.some.injEq, Obj.cells.injEq, Array.mk.injEq, List.cons.injEq, Value.pointer.injEq, Addr.mk.injEq, and_true] at q1
        obtain ⟨rfl, rfl⟩ := q1
        have ga := (aw_below V0 nb a b).size
        have g0 := hV0.size
        have hN := h.below hbV'
        have hput := hN.put hu (s' := ⟨gboth x.cm y.cm, (allP a x.cm x.E b y.cm y.E).1⟩) (q2.below hB) q6 h.nlt h.plt hLB (B := w.heap.size) (by omega) (by omega)
        have hfp : Fr (fun k => k = pb) V' (V'.setCell ⟨pb, a, none⟩ (.pointer (some ⟨ab, 0, none⟩))) := (Fr.refl (fun k => k = pb) V').setCell (p := ⟨pb, a, none⟩) (.inl rfl) _
        refine ⟨_, _, rfl, rfl, _, hput, ?_, (Fr.of_below hbV').trans hfp, fun x hx => ?_⟩
        · have hpl := h.plt
          refine ownsRow_base (ownsRow_keep hR (fun k e => hfp.block k (World.ownsRow.lt hR k e).2 (by have := (World.ownsRow.lt hR k e).1; omega))) (fun k e => by have := (World.ownsRow.lt hR k e).1; omega)
        · rcases List.mem_or_eq_of_mem_set hx with q | rfl
          · exact .inl q
          · exact .inr ⟨by simp only; omega, by simp only; omega⟩
theorem mem_stepA {s : Nat} {cm : Nat → Int} {E : Recs} {s' : Nat} {cm' : Nat → Int} {E' : Recs} (U : List ByteArray) : ∀ (A : Recs × List (ByteArray × Int)) x, x ∈ (U.foldl (stepA s cm E s' cm' E') A).1 → x ∈ A.1 ∨ x.1 ∈ U := by
  induction U with
  | nil => intro A x hx; exact .inl hx
  | cons p U ih =>
    intro A x hx
    rcases ih _ x hx with q | q
    · rcases keepE_mem q with rfl | q
      · exact .inr (List.mem_cons_self ..)
      · exact .inl q
    · exact .inr (List.mem_cons_of_mem _ q)
theorem plR_kin {r : Nat} {s : RS} {r' : Nat} {y : RS} (hr : RisingE s.E) (hs : ∀ x ∈ s.E, x.1 ∈ PATHS) (hy : ∀ x ∈ y.E, x.1 ∈ PATHS) : ∀ x ∈ (plR r s r' y).2.1.E, x.1 ∈ PATHS := by
  unfold plR
  split
  · exact hs
  · intro x hx
    rcases mem_stepA _ _ x hx with q | q
    · simp at q
    · have hE : RisingK (s.E.map (·.1)) := by
        unfold RisingK
        rw [List.pairwise_map]
        exact hr
      rcases ((union_spec _ _ hE).2 x.1).1 q with q | q
      · obtain ⟨z, hz, e⟩ := List.mem_map.1 q
        rw [← e]; exact hs z hz
      · obtain ⟨z, hz, e⟩ := List.mem_map.1 q
        rw [← e]; exact hy z hz
theorem ePull {w0 w : World} {nb : Nat} {S : List RS} {K : List Nat} (h : Ne w0 w nb S K) (a b : Nat) (hab : a ≠ b) {x y : RS} (hx : S[a]? = some x) (hy : S[b]? = some y) :
    Calls (twin Tryz.prog pl) 22 #[.pointer (some ⟨nb, 0, none⟩), .int .i64 a, .int .i64 b] w fun e w' => ∃ rv, e = .returned (.tuple #[rv, .int .i64 (plR a x b y).1]) ∧ Ne w0 w' nb (S.set a (plR a x b y).2.1) K ∧ Keeps K w w' ∧ w'.ownsRow w.heap.size 66 3 rv (plR a x b y).2.2.length (chv a (plR a x b y).2.2) := by
  obtain ⟨pb, L, hN, h1, h2, h3⟩ := h.ex
  obtain ⟨u, hu, hl⟩ := h.at hN hx
  obtain ⟨v, hv, hl'⟩ := h.at hN hy
  refine (tame_on (by decide) h.fix (npulls hN h.fix a b hab hu hv hx hy (by omega) (fun e he => by have := (PATHS_ok _ (h.kin.at hx e he)).2; omega) (fun e he => by have := (PATHS_ok _ (h.kin.at hy e he)).2; omega)) (fun e w' h => by obtain ⟨rv, r2, e, _⟩ := h; exact ⟨_, e⟩)).mono ?_
  rintro e w' ⟨⟨rv, r2, rfl, rfl, L', hN', hrow, hf, hL⟩, hx'⟩
  obtain ⟨q1, q2⟩ := h.step hN h1 h2 h3 (hf.mono fun k _ e => .inl e) hN' hL (h.kin.set a (plR_kin (hN.rep a u x hu hx).ris (h.kin.at hx) (h.kin.at hy))) hx'
  exact ⟨rv, rfl, q1, q2, hrow⟩
end Go.Proofs.YtaelaldmibgibaaGreat

namespace Go.Proofs.YtaelaldmibgibaaGreat
open Go.RowKit Go.Sim

structure Wf1 (B : Int) (s : RS) : Prop where
  ris : RisingE s.E
  kin : ∀ x ∈ s.E, x.1 ∈ PATHS
  lo : ∀ i, 0 ≤ s.cm i
  hi : ∀ i, s.cm i ≤ B
def Wf (B : Int) (S : List RS) : Prop := ∀ s ∈ S, Wf1 B s
theorem Wf1.len {B : Int} {s : RS} (h : Wf1 B s) : s.E.length ≤ 10 := by
  have h1 : (s.E.map (·.1)).Pairwise (fun a b => slt a b = true) := by
    rw [List.pairwise_map]
    exact h.ris
  have := pairwise_len (m := PATHS) h1 (fun x hx => by obtain ⟨y, hy, rfl⟩ := List.mem_map.1 hx; exact h.kin y hy)
  simpa [PATHS] using this
theorem Wf1.room {B : Int} {s : RS} (h : Wf1 B s) (R : Rec) : noRoom R s.E = false := by
  have h1 := thereE_len s.E
  have h2 := h.len
  unfold noRoom
  rw [Bool.and_eq_false_iff]
  right
  simp
  omega
theorem Wf1.mono {B B' : Int} {s : RS} (h : Wf1 B s) (hb : B ≤ B') : Wf1 B' s := ⟨h.ris, h.kin, h.lo, fun i => Int.le_trans (h.hi i) hb⟩
theorem Wf.mono {B B' : Int} {S : List RS} (h : Wf B S) (hb : B ≤ B') : Wf B' S := fun s hs => (h s hs).mono hb
theorem Wf.at {B : Int} {S : List RS} (h : Wf B S) {r : Nat} {s : RS} (hs : S[r]? = some s) : Wf1 B s := h s (List.mem_of_getElem? hs)
theorem Wf.set {B : Int} {S : List RS} (h : Wf B S) (r : Nat) {s : RS} (hs : Wf1 B s) : Wf B (S.set r s) := by
  intro s' hs'
  rcases List.mem_or_eq_of_mem_set hs' with h1 | rfl
  · exact h s' h1
  · exact hs
theorem gboth_le {a b : Nat → Int} {i : Nat} {B : Int} (h0 : 0 ≤ B) (h1 : a i ≤ B) (h2 : b i ≤ B) : gboth a b i ≤ B := by
  unfold gboth g1 zer
  (repeat' split) <;> omega
theorem gboth_lo (a b : Nat → Int) (i : Nat) : 0 ≤ gboth a b i ∧ a i ≤ gboth a b i ∧ b i ≤ gboth a b i := by
  unfold gboth g1 zer
  (repeat' split) <;> omega
theorem gboth_max {a b : Nat → Int} {i : Nat} (h : 0 ≤ a i) : gboth a b i = max (a i) (b i) := by
  unfold gboth g1 zer
  (repeat' split) <;> omega
theorem tf_eq (r : Nat) (x : Int) (i : Nat) (hr : r < 6) : tf r x i = if i = r then x else 0 := by
  unfold tf one
  match r, hr with
  | 0, _ | 1, _ | 2, _ | 3, _ | 4, _ | 5, _ =>
    rcases i with _ | _ | _ | _ | _ | _ | i <;> simp
theorem nxG_le {s : Nat} {cm : Nat → Int} {B : Int} (hs : s < 6) (h0 : 0 ≤ B) (h : ∀ i, cm i ≤ B) (i : Nat) : nxG s cm i ≤ B + 1 := by
  unfold nxG
  refine gboth_le (by omega) (by have := h i; omega) ?_
  rw [tf_eq _ _ _ hs]
  split
  · have := h s; omega
  · omega
theorem nxG_lo (s : Nat) (cm : Nat → Int) (i : Nat) : 0 ≤ nxG s cm i := (gboth_lo _ _ _).1
theorem Wf1.next {B : Int} {s : RS} {r : Nat} (h : Wf1 B s) (hr : r < 6) (h0 : 0 ≤ B) {p : ByteArray} (hp : p ∈ PATHS) (R : Rec) : Wf1 (B + 1) ⟨nxG r s.cm, keepE (nxG r s.cm) p R s.E⟩ :=
  ⟨keepE_rising _ _ _ _ h.ris, kin_keep hp h.kin, nxG_lo r s.cm, nxG_le hr h0 h.hi⟩
theorem wr_wf {B : Int} {s : RS} {r : Nat} (h : Wf1 B s) (hr : r < 6) (h0 : 0 ≤ B) (hB : B < 1000000000) {p : ByteArray} (hp : p ∈ PATHS) (t : ByteArray) : (wrR r s p t).1 = 0 ∧ Wf1 (B + 1) (wrR r s p t).2 := by
  unfold wrR
  have hc : (decide (1000000000 ≤ s.cm r) || noRoom (recG r s.cm (getE p s.E)) s.E) = false := by
    rw [h.room]
    have := h.hi r
    simp
    omega
  rw [hc, if_neg (by simp)]
  exact ⟨rfl, h.next hr h0 hp _⟩
theorem rm_wf {B : Int} {s : RS} {r : Nat} (h : Wf1 B s) (hr : r < 6) (h0 : 0 ≤ B) (hB : B < 1000000000) {p : ByteArray} (hp : p ∈ PATHS) : ((rmR r s p).1 = 0 ∨ (rmR r s p).1 = 4) ∧ Wf1 (B + 1) (rmR r s p).2 := by
  unfold rmR
  split
  · exact ⟨.inr rfl, h.mono (by omega)⟩
  · have hc : decide (1000000000 ≤ s.cm r) = false := by have := h.hi r; simp; omega
    rw [hc, if_neg (by simp)]
    exact ⟨.inl rfl, h.next hr h0 hp _⟩
theorem rising_fold {s : Nat} {cm : Nat → Int} {E : Recs} {s' : Nat} {cm' : Nat → Int} {E' : Recs} (U : List ByteArray) : ∀ A : Recs × List (ByteArray × Int), RisingE A.1 → RisingE (U.foldl (stepA s cm E s' cm' E') A).1 := by
  induction U with
  | nil => intro A h; exact h
  | cons p U ih => intro A h; exact ih _ (keepE_rising _ _ _ _ h)
theorem pl_wf {B : Int} {s y : RS} {r f : Nat} (h : Wf1 B s) (hy : Wf1 B y) (h0 : 0 ≤ B) : (plR r s f y).1 = 0 ∧ Wf1 B (plR r s f y).2.1 ∧ (plR r s f y).2.2 = (allP r s.cm s.E f y.cm y.E).2 ∧ (plR r s f y).2.1 = ⟨gboth s.cm y.cm, (allP r s.cm s.E f y.cm y.E).1⟩ := by
  have hk := plR_kin (r := r) (r' := f) h.ris h.kin hy.kin
  have hw : ∀ x ∈ (allP r s.cm s.E f y.cm y.E).1, x.1 ∈ PATHS := by
    intro x hx
    rcases mem_stepA _ _ x hx with q | q
    · simp at q
    · have hE : RisingK (s.E.map (·.1)) := by
        unfold RisingK
        rw [List.pairwise_map]
        exact h.ris
      rcases ((union_spec _ _ hE).2 x.1).1 q with q | q
      · obtain ⟨z, hz, e⟩ := List.mem_map.1 q
        rw [← e]; exact h.kin z hz
      · obtain ⟨z, hz, e⟩ := List.mem_map.1 q
        rw [← e]; exact hy.kin z hz
  have hwf : Wf1 B ⟨gboth s.cm y.cm, (allP r s.cm s.E f y.cm y.E).1⟩ := ⟨rising_fold _ _ List.Pairwise.nil, hw, fun i => (gboth_lo _ _ i).1, fun i => gboth_le h0 (h.hi i) (hy.hi i)⟩
  have hl : ¬ 20 < (thereE (allP r s.cm s.E f y.cm y.E).1).length := by
    have h1 := thereE_len (allP r s.cm s.E f y.cm y.E).1
    have h2 := hwf.len
    simp only at h2
    omega
  unfold plR
  rw [if_neg hl]
  exact ⟨rfl, hwf, rfl, rfl⟩
structure StepO where
  what : Int
  r : Int
  f : Int
  path : Int
  text : ByteArray
def StepO.R (o : StepO) (n : Nat) : Nat := (pickR o.r n).toNat
def StepO.F (o : StepO) (n : Nat) : Nat := (otherR (o.R n) o.f n).toNat
def StepO.P (o : StepO) : ByteArray := pDir (pickR o.path 8).toNat
def StepO.W (o : StepO) : Nat := (pickR o.what 8).toNat
def StepO.T (o : StepO) : Bool := pickR o.f 2 == 0
def rs0 : RS := ⟨fun _ => 0, []⟩
theorem StepO.R_lt (o : StepO) {n : Nat} (hn : 2 ≤ n) : o.R n < n := by
  have := pickR_lt o.r n (by omega)
  unfold StepO.R
  omega
theorem StepO.F_ok (o : StepO) {n : Nat} (hn : 2 ≤ n) : o.F n < n ∧ o.F n ≠ o.R n := by
  have := otherR_ok (o.R n) n o.f (o.R_lt hn) hn
  unfold StepO.F
  omega
theorem StepO.P_in (o : StepO) : o.P ∈ PATHS := by
  have := pickR_lt o.path 8 (by decide)
  unfold StepO.P
  have h : (pickR o.path 8).toNat < 8 := by omega
  generalize (pickR o.path 8).toNat = k at *
  match k, h with
  | 0, _ => exact List.mem_cons_of_mem _ (List.mem_cons_of_mem _ (List.mem_cons_self ..))
  | 1, _ => exact List.mem_cons_of_mem _ (List.mem_cons_of_mem _ (List.mem_cons_of_mem _ (List.mem_cons_self ..)))
  | 2, _ => exact List.mem_cons_of_mem _ (List.mem_cons_of_mem _ (List.mem_cons_of_mem _ (List.mem_cons_of_mem _ (List.mem_cons_self ..))))
  | 3, _ => exact List.mem_cons_of_mem _ (List.mem_cons_of_mem _ (List.mem_cons_of_mem _ (List.mem_cons_of_mem _ (List.mem_cons_of_mem _ (List.mem_cons_self ..)))))
  | 4, _ => exact List.mem_cons_of_mem _ (List.mem_cons_of_mem _ (List.mem_cons_of_mem _ (List.mem_cons_of_mem _ (List.mem_cons_of_mem _ (List.mem_cons_of_mem _ (List.mem_cons_self ..))))))
  | 5, _ => exact List.mem_cons_of_mem _ (List.mem_cons_of_mem _ (List.mem_cons_of_mem _ (List.mem_cons_of_mem _ (List.mem_cons_of_mem _ (List.mem_cons_of_mem _ (List.mem_cons_of_mem _ (List.mem_cons_self ..)))))))
  | 6, _ => exact List.mem_cons_of_mem _ (List.mem_cons_of_mem _ (List.mem_cons_of_mem _ (List.mem_cons_of_mem _ (List.mem_cons_of_mem _ (List.mem_cons_of_mem _ (List.mem_cons_of_mem _ (List.mem_cons_of_mem _ (List.mem_cons_self ..))))))))
  | 7, _ => exact List.mem_cons_of_mem _ (List.mem_cons_of_mem _ (List.mem_cons_of_mem _ (List.mem_cons_of_mem _ (List.mem_cons_of_mem _ (List.mem_cons_of_mem _ (List.mem_cons_of_mem _ (List.mem_cons_of_mem _ (List.mem_cons_of_mem _ (List.mem_cons_self ..)))))))))
theorem getD_at {S : List RS} {r : Nat} (h : r < S.length) : S[r]? = some (S.getD r rs0) := by
  rw [List.getD_eq_getElem?_getD, List.getElem?_eq_getElem h]
  rfl
end Go.Proofs.YtaelaldmibgibaaGreat

namespace Go.Proofs.YtaelaldmibgibaaGreat
open Go.RowKit Go.Sim
open Classical

theorem getE_iff {E : Recs} (hE : RisingE E) (p : ByteArray) (R : Rec) : getE p E = some R ↔ (p, R) ∈ E := by
  constructor
  · exact mem_getE
  · intro h
    have hs := getE_mem h
    cases hg : getE p E with
    | none => simp only at hs; rw [hg] at hs; cases hs
    | some R' =>
      have hm := mem_getE hg
      have : ∀ x ∈ E, ∀ y ∈ E, x.1 = y.1 → x = y := by
        intro x hx y hy e
        rcases List.pairwise_iff_forall_sublist.1 hE with _
        by_cases hxy : x = y
        · exact hxy
        · exfalso
          obtain ⟨i, hi, ei⟩ := List.getElem_of_mem hx
          obtain ⟨j, hj, ej⟩ := List.getElem_of_mem hy
          have hp := List.pairwise_iff_getElem.1 hE
          rcases Nat.lt_trichotomy i j with q | q | q
          · have := hp i j hi hj q
            rw [ei, ej, e, slt_irrefl] at this
            cases this
          · subst q
            exact hxy (ei.symm.trans ej)
          · have := hp j i hj hi q
            rw [ei, ej, e, slt_irrefl] at this
            cases this
      have e := this _ hm _ h rfl
      cases e
      rfl
theorem mem_put_iff {E : Recs} {p : ByteArray} {R : Rec} {x : ByteArray × Rec} : x ∈ putE p R E ↔ x = (p, R) ∨ (x ∈ E ∧ x.1 ≠ p) := by
  unfold putE
  simp only [List.mem_append, List.mem_cons, List.mem_filter]
  constructor
  · rintro (⟨h, h1⟩ | rfl | ⟨h, h1⟩)
    · exact .inr ⟨h, fun e => by rw [e, slt_irrefl] at h1; cases h1⟩
    · exact .inl rfl
    · exact .inr ⟨h, fun e => by rw [e, slt_irrefl] at h1; cases h1⟩
  · rintro (rfl | ⟨h, h1⟩)
    · exact .inr (.inl rfl)
    · cases h2 : slt x.1 p with
      | true => exact .inl ⟨h, rfl⟩
      | false =>
        cases h3 : slt p x.1 with
        | true => exact .inr (.inr ⟨h, rfl⟩)
        | false => exact absurd (slt_tri h2 h3) h1
theorem mem_del_iff {E : Recs} {p : ByteArray} {x : ByteArray × Rec} : x ∈ delE p E ↔ x ∈ E ∧ x.1 ≠ p := by
  unfold delE
  simp only [List.mem_append, List.mem_filter]
  constructor
  · rintro (⟨h, h1⟩ | ⟨h, h1⟩)
    · exact ⟨h, fun e => by rw [e, slt_irrefl] at h1; cases h1⟩
    · exact ⟨h, fun e => by rw [e, slt_irrefl] at h1; cases h1⟩
  · rintro ⟨h, h1⟩
    cases h2 : slt x.1 p with
    | true => exact .inl ⟨h, rfl⟩
    | false =>
      cases h3 : slt p x.1 with
      | true => exact .inr ⟨h, rfl⟩
      | false => exact absurd (slt_tri h2 h3) h1
def kept (cm : Nat → Int) (R : Rec) : Option Rec := if (decide (0 < R.bn) || !eqT R.kn cm) = true then some R else none
theorem opt_ext {a b : Option Rec} (h : ∀ R, a = some R ↔ b = some R) : a = b := by
  cases a with
  | none =>
    cases b with
    | none => rfl
    | some R => exact absurd ((h R).2 rfl) (by simp)
  | some R => exact ((h R).1 rfl).symm
theorem get_keep {cm : Nat → Int} {p q : ByteArray} {R : Rec} {E : Recs} (hE : RisingE E) : getE q (keepE cm p R E) = if q = p then kept cm R else getE q E := by
  have hk := keepE_rising cm p R E hE
  apply opt_ext
  intro R'
  rw [getE_iff hk]
  unfold keepE kept
  by_cases hm : (decide (0 < R.bn) || !eqT R.kn cm) = true
  · rw [if_pos hm, if_pos hm, mem_put_iff]
    by_cases e : q = p
    · subst e
      rw [if_pos rfl]
      constructor
      · rintro (h | ⟨_, h⟩)
        · cases h; rfl
        · exact absurd rfl h
      · intro h; cases h; exact .inl rfl
    · rw [if_neg e, getE_iff hE]
      constructor
      · rintro (h | ⟨h, _⟩)
        · cases h; exact absurd rfl e
        · exact h
      · intro h; exact .inr ⟨h, e⟩
  · rw [if_neg hm, if_neg hm, mem_del_iff]
    by_cases e : q = p
    · subst e
      rw [if_pos rfl]
      constructor
      · rintro ⟨_, h⟩; exact absurd rfl h
      · intro h; cases h
    · rw [if_neg e, getE_iff hE]
      constructor
      · rintro ⟨h, _⟩; exact h
      · intro h; exact ⟨h, e⟩
section
variable {s : Nat} {cm : Nat → Int} {E : Recs} {s' : Nat} {cm' : Nat → Int} {E' : Recs}
theorem get_fold (p : ByteArray) (U : List ByteArray) : ∀ A : Recs × List (ByteArray × Int), RisingE A.1 → RisingK U → getE p (U.foldl (stepA s cm E s' cm' E') A).1 = if p ∈ U then kept (gboth cm cm') (pullR (recG s cm (getE p E)) (recG s' cm' (getE p E'))).1 else getE p A.1 := by
  induction U with
  | nil => intro A _ _; simp
  | cons q U ih =>
    intro A hA hU
    obtain ⟨h1, h2⟩ := List.pairwise_cons.1 hU
    rw [List.foldl_cons, ih _ (keepE_rising _ _ _ _ hA) h2]
    show (if p ∈ U then _ else getE p (keepE _ q _ A.1)) = _
    rw [get_keep hA]
    by_cases e : p = q
    · subst e
      have : ¬ p ∈ U := fun h => by have := h1 p h; rw [slt_irrefl] at this; cases this
      rw [if_neg this, if_pos rfl, if_pos (List.mem_cons_self ..)]
    · rw [if_neg e]
      by_cases h : p ∈ U
      · rw [if_pos h, if_pos (List.mem_cons_of_mem _ h)]
      · rw [if_neg h, if_neg (by rw [List.mem_cons]; rintro (q | q); exact e q; exact h q)]
def toldP (s : Nat) (cm : Nat → Int) (E : Recs) (s' : Nat) (cm' : Nat → Int) (E' : Recs) (p : ByteArray) : List (ByteArray × Int) :=
  if (pullR (recG s cm (getE p E)) (recG s' cm' (getE p E'))).2 = 0 then [] else [(p, (pullR (recG s cm (getE p E)) (recG s' cm' (getE p E'))).2)]
theorem told_fold (U : List ByteArray) : ∀ A : Recs × List (ByteArray × Int), (U.foldl (stepA s cm E s' cm' E') A).2 = A.2 ++ (U.map (toldP s cm E s' cm' E')).flatten := by
  induction U with
  | nil => intro A; simp
  | cons q U ih =>
    intro A
    rw [List.foldl_cons, ih, List.map_cons, List.flatten_cons, ← List.append_assoc]
    congr 1
    unfold stepA toldP
    split <;> simp
def lastW (p : ByteArray) (l : List (ByteArray × Int)) : Int := l.foldl (fun acc x => if seq x.1 p = true then x.2 else acc) 0
theorem lastW_none (p : ByteArray) (l : List (ByteArray × Int)) (z : Int) (h : ∀ x ∈ l, x.1 ≠ p) : l.foldl (fun acc x => if seq x.1 p = true then x.2 else acc) z = z := by
  induction l generalizing z with
  | nil => rfl
  | cons x l ih =>
    rw [List.foldl_cons, seq_false (h x (List.mem_cons_self ..)), if_neg (by simp)]
    exact ih z (fun y hy => h y (List.mem_cons_of_mem _ hy))
theorem lastW_told (p : ByteArray) (U : List ByteArray) (hU : RisingK U) : lastW p (U.map (toldP s cm E s' cm' E')).flatten = if p ∈ U then (pullR (recG s cm (getE p E)) (recG s' cm' (getE p E'))).2 else 0 := by
  unfold lastW
  generalize hz : (0 : Int) = z
  have key : ∀ (U : List ByteArray), RisingK U → ∀ z : Int, (p ∈ U → z = 0) → (U.map (toldP s cm E s' cm' E')).flatten.foldl (fun acc x => if seq x.1 p = true then x.2 else acc) z = if p ∈ U then (pullR (recG s cm (getE p E)) (recG s' cm' (getE p E'))).2 else z := by
    intro U
    induction U with
    | nil => intro _ z _; simp
    | cons q U ih =>
      intro hU z hz
      obtain ⟨h1, h2⟩ := List.pairwise_cons.1 hU
      rw [List.map_cons, List.flatten_cons, List.foldl_append]
      by_cases e : p = q
      · subst e
        have hn : ¬ p ∈ U := fun h => by have := h1 p h; rw [slt_irrefl] at this; cases this
        rw [if_pos (List.mem_cons_self ..)]
        rw [lastW_none]
        · unfold toldP
          split
          · next h => rw [h]; exact hz (List.mem_cons_self ..)
          · simp [(seq_iff p p).2 rfl]
        · intro x hx
          obtain ⟨l, hl, hx⟩ := List.mem_flatten.1 hx
          obtain ⟨u, hu, rfl⟩ := List.mem_map.1 hl
          have : x.1 = u := by
            unfold toldP at hx
            split at hx
            · simp at hx
            · simp at hx; rw [hx]
          rw [this]
          rintro rfl
          exact hn hu
      · have e1 : (toldP s cm E s' cm' E' q).foldl (fun acc x => if seq x.1 p = true then x.2 else acc) z = z := by
          apply lastW_none
          intro x hx
          unfold toldP at hx
          split at hx
          · simp at hx
          · simp at hx; rw [hx]; exact fun q => e q.symm
        rw [e1, ih h2 z (fun h => hz (List.mem_cons_of_mem _ h))]
        by_cases h : p ∈ U
        · rw [if_pos h, if_pos (List.mem_cons_of_mem _ h)]
        · rw [if_neg h, if_neg (by rw [List.mem_cons]; rintro (q | q); exact e q; exact h q)]
  exact key U hU z (fun _ => hz.symm)
end
theorem pullR_cases (t f : Rec) : ((pullR t f).2 = 1 ∧ (pullR t f).1.text = f.text ∧ (pullR t f).1.bn = f.bn ∧ 0 < f.bn) ∨ ((pullR t f).2 = 2 ∧ (pullR t f).1.bn = 0 ∧ 0 < t.bn ∧ ¬ 0 < f.bn) ∨ (((pullR t f).2 = 0 ∨ (pullR t f).2 = 3) ∧ (pullR t f).1.text = t.text ∧ (pullR t f).1.bn = t.bn) := by
  unfold pullR
  split
  · exact .inr (.inr ⟨.inl rfl, rfl, rfl⟩)
  · split
    · exact .inr (.inr ⟨.inr rfl, rfl, rfl⟩)
    · split
      · next h1 =>
        refine .inl ⟨rfl, rfl, rfl, ?_⟩
        unfold whatP at h1
        split at h1
        · next h => rw [Bool.and_eq_true, decide_eq_true_eq, decide_eq_true_eq] at h; exact h.2
        · split at h1
          · next h => exact of_decide_eq_true h
          · split at h1
            · unfold inT at h1; split at h1 <;> simp at h1
            · simp at h1
      · split
        · next h1 =>
          refine .inr (.inl ⟨rfl, rfl, ?_⟩)
          unfold whatP at h1
          split at h1
          · unfold inB at h1; (repeat' split at h1) <;> simp at h1
          · split at h1
            · unfold inF at h1; (repeat' split at h1) <;> simp at h1
            · next h2 =>
              split at h1
              · next h3 => exact ⟨of_decide_eq_true h3, by simpa using h2⟩
              · simp at h1
        · exact .inr (.inr ⟨.inl rfl, rfl, rfl⟩)
theorem pullR_none {t f : Rec} (ht : ¬ 0 < t.bn) (hf : ¬ 0 < f.bn) : (pullR t f).2 = 0 := by
  rcases pullR_cases t f with ⟨_, _, _, h⟩ | ⟨_, _, h, _⟩ | ⟨h, _⟩
  · exact absurd h hf
  · exact absurd h ht
  · rcases h with h | h
    · exact h
    · exfalso
      unfold pullR at h
      have hs : isStr f t = false := by unfold isStr; simp [ht]
      have hw : whatP t f = 0 := by unfold whatP; simp [ht, hf]
      rw [hs, hw] at h
      simp at h
def rdRec (R : Rec) : ByteArray × Int := if (decide (0 < R.bn)) = true then (R.text, 0) else (⟨#[]⟩, 4)
theorem rdR_rec (r : Nat) (x : RS) (p : ByteArray) : rdR r x p = rdRec (recG r x.cm (getE p x.E)) := rfl
theorem pl_told {B : Int} {x y : RS} {r f : Nat} (hx : Wf1 B x) (hy : Wf1 B y) (h0 : 0 ≤ B) (p : ByteArray) : lastW p (plR r x f y).2.2 = (pullR (recG r x.cm (getE p x.E)) (recG f y.cm (getE p y.E))).2 := by
  rw [(pl_wf hx hy h0).2.2.1]
  have hE : RisingK (x.E.map (·.1)) := by
    unfold RisingK
    rw [List.pairwise_map]
    exact hx.ris
  obtain ⟨u1, u2⟩ := union_spec (y.E.map (·.1)) _ hE
  show lastW p ((unionK (x.E.map (·.1)) (y.E.map (·.1))).foldl (stepA r x.cm x.E f y.cm y.E) ([], [])).2 = _
  rw [told_fold, List.nil_append, lastW_told p _ u1]
  split
  · rfl
  · next hu =>
    have hne : ∀ E : Recs, (p ∈ E.map (·.1) → False) → getE p E = none := fun E h => by
      cases hg : getE p E with
      | none => rfl
      | some R => exact (h (List.mem_map.2 ⟨_, mem_getE hg, rfl⟩)).elim
    rw [hne x.E (fun h => hu ((u2 p).2 (.inl h))), hne y.E (fun h => hu ((u2 p).2 (.inr h)))]
    exact (pullR_none (by simp [recG]) (by simp [recG])).symm
end Go.Proofs.YtaelaldmibgibaaGreat

namespace Go.Proofs.YtaelaldmibgibaaGreat
open Go.RowKit Go.Sim
open Classical

def recN : Rec := ⟨⟨#[]⟩, 0, 0, fun _ => 0, fun _ => 0⟩
def fl (E : Recs) (p : ByteArray) : Rec := (getE p E).getD recN
def sameF (a b : Rec) : Prop := a.text = b.text ∧ a.br = b.br ∧ a.bn = b.bn ∧ a.ch = b.ch
theorem sameF.refl (a : Rec) : sameF a a := ⟨rfl, rfl, rfl, rfl⟩
theorem sameF.trans {a b c : Rec} (h : sameF a b) (k : sameF b c) : sameF a c := ⟨h.1.trans k.1, h.2.1.trans k.2.1, h.2.2.1.trans k.2.2.1, h.2.2.2.trans k.2.2.2⟩
theorem sameF.symm {a b : Rec} (h : sameF a b) : sameF b a := ⟨h.1.symm, h.2.1.symm, h.2.2.1.symm, h.2.2.2.symm⟩
theorem recG_fl (s : Nat) (cm : Nat → Int) (E : Recs) (p : ByteArray) : sameF (recG s cm (getE p E)) (fl E p) := by
  unfold fl
  cases getE p E with
  | none => exact ⟨rfl, rfl, rfl, rfl⟩
  | some R => exact ⟨rfl, rfl, rfl, rfl⟩
theorem pullR_file (t f : Rec) : sameF (pullR t f).1 t ∨ sameF (pullR t f).1 f ∨ ((pullR t f).1.bn = 0 ∧ ∀ k, (pullR t f).1.ch k = 0) := by
  unfold pullR
  (repeat' split)
  · exact .inl (sameF.refl _)
  · exact .inl (sameF.refl _)
  · exact .inr (.inl ⟨rfl, rfl, rfl, rfl⟩)
  · exact .inr (.inr ⟨rfl, fun _ => rfl⟩)
  · exact .inl ⟨rfl, rfl, rfl, rfl⟩
theorem kept_file (cm : Nat → Int) (R : Rec) : (kept cm R = some R) ∨ (kept cm R = none ∧ ¬ 0 < R.bn) := by
  unfold kept
  split
  · exact .inl rfl
  · next h =>
    simp only [Bool.or_eq_true, decide_eq_true_eq, not_or] at h
    exact .inr ⟨rfl, h.1⟩
theorem fl_keep {cm : Nat → Int} {p q : ByteArray} {R : Rec} {E : Recs} (hE : RisingE E) : (q ≠ p → fl (keepE cm p R E) q = fl E q) ∧ (fl (keepE cm p R E) p = R ∨ (¬ 0 < R.bn ∧ fl (keepE cm p R E) p = recN)) := by
  refine ⟨fun h => ?_, ?_⟩
  · unfold fl
    rw [get_keep hE, if_neg h]
  · unfold fl
    rw [get_keep hE, if_pos rfl]
    rcases kept_file cm R with e | ⟨e, h⟩
    · rw [e]; exact .inl rfl
    · rw [e]; exact .inr ⟨h, rfl⟩
structure Iv (n : Nat) (F : Nat → ByteArray → Rec) (c : Nat → Int) : Prop where
  i1 : ∀ i < n, ∀ p, 0 < (F i p).bn → ∃ b : Nat, b < 6 ∧ (F i p).br = b ∧ (F i p).bn ≤ (F i p).ch b
  i3 : ∀ i < n, ∀ p, ∀ j < n, (F i p).ch j ≤ c j
  c0 : ∀ j < n, 0 ≤ c j
  i2 : ∀ i < n, ∀ j < n, ∀ p, 0 < (F i p).bn → 0 < (F j p).bn → (F i p).br = (F j p).br → (F i p).bn = (F j p).bn → (∀ k < 6, (F i p).ch k = (F j p).ch k) → (F i p).text = (F j p).text
def Adopt (n : Nat) (F : Nat → ByteArray → Rec) (R : Rec) (p : ByteArray) : Prop := (¬ 0 < R.bn ∧ ∀ k, R.ch k = 0) ∨ ∃ j < n, sameF R (F j p)
structure NewV (n : Nat) (c c' : Nat → Int) (r : Nat) (R : Rec) : Prop where
  lt : r < n
  own : R.ch r = c' r
  gt : c r < c' r
  le : ∀ j < n, R.ch j ≤ c' j
  birth : ∃ b : Nat, b < 6 ∧ R.br = b ∧ R.bn ≤ R.ch b
theorem Iv.step {n : Nat} (h6 : n ≤ 6) {F F' : Nat → ByteArray → Rec} {c c' : Nat → Int} (h : Iv n F c) (hc : ∀ j < n, c j ≤ c' j) (r : Nat) (p0 : ByteArray) (ha : ∀ i < n, ∀ p, (i ≠ r ∨ p ≠ p0) → Adopt n F (F' i p) p) (hn : Adopt n F (F' r p0) p0 ∨ NewV n c c' r (F' r p0)) : Iv n F' c' := by
  have key : ∀ i < n, ∀ p, Adopt n F (F' i p) p ∨ (i = r ∧ p = p0 ∧ NewV n c c' r (F' r p0)) := by
    intro i hi p
    by_cases e : i = r ∧ p = p0
    · obtain ⟨rfl, rfl⟩ := e
      rcases hn with q | q
      · exact .inl q
      · exact .inr ⟨rfl, rfl, q⟩
    · refine .inl (ha i hi p ?_)
      by_cases e1 : i = r
      · exact .inr (fun q => e ⟨e1, q⟩)
      · exact .inl e1
  have old : ∀ i < n, ∀ p, Adopt n F (F' i p) p → 0 < (F' i p).bn → ∃ j < n, sameF (F' i p) (F j p) ∧ 0 < (F j p).bn := by
    intro i hi p hA hb
    rcases hA with q | ⟨j, hj, hs⟩
    · exact absurd hb q.1
    · exact ⟨j, hj, hs, by rw [← hs.2.2.1]; exact hb⟩
  refine ⟨fun i hi p hb => ?_, fun i hi p j hj => ?_, fun j hj => Int.le_trans (h.c0 j hj) (hc j hj), fun i hi j hj p hb hb' e1 e2 e3 => ?_⟩
  · rcases key i hi p with q | ⟨rfl, rfl, q⟩
    · obtain ⟨j, hj, hs, hb'⟩ := old i hi p q hb
      obtain ⟨b, h1, h2, h3⟩ := h.i1 j hj p hb'
      exact ⟨b, h1, by rw [hs.2.1]; exact h2, by rw [hs.2.2.1, hs.2.2.2]; exact h3⟩
    · exact q.birth
  · rcases key i hi p with q | ⟨rfl, rfl, q⟩
    · rcases q with q | ⟨k, hk, hs⟩
      · rw [q.2 j]
        exact Int.le_trans (h.c0 j hj) (hc j hj)
      · rw [hs.2.2.2]
        exact Int.le_trans (h.i3 k hk p j hj) (hc j hj)
    · exact q.le j hj
  · rcases key i hi p with q | ⟨rfl, rfl, q⟩
    · obtain ⟨k, hk, hs, hbk⟩ := old i hi p q hb
      rcases key j hj p with q' | ⟨rfl, rfl, q'⟩
      · obtain ⟨k', hk', hs', hbk'⟩ := old j hj p q' hb'
        have := h.i2 k hk k' hk' p hbk hbk' (by rw [← hs.2.1, ← hs'.2.1]; exact e1) (by rw [← hs.2.2.1, ← hs'.2.2.1]; exact e2) (fun m hm => by rw [← hs.2.2.2, ← hs'.2.2.2]; exact e3 m hm)
        rw [hs.1, hs'.1]
        exact this
      · exfalso
        have h1 := h.i3 k hk p j q'.lt
        have h2 := e3 j (by have := q'.lt; omega)
        rw [hs.2.2.2, q'.own] at h2
        have := q'.gt
        omega
    · rcases key j hj p with q' | ⟨rfl, _, q'⟩
      · obtain ⟨k', hk', hs', hbk'⟩ := old j hj p q' hb'
        exfalso
        have h1 := h.i3 k' hk' p i q.lt
        have h2 := e3 i (by have := q.lt; omega)
        rw [hs'.2.2.2, q.own] at h2
        have := q.gt
        omega
      · rfl
def flS (S : List RS) (i : Nat) (p : ByteArray) : Rec := fl (S.getD i rs0).E p
def CS (S : List RS) (i : Nat) : Int := (S.getD i rs0).cm i
def IvS (S : List RS) : Prop := Iv S.length (flS S) (CS S)
theorem getD_set_self {S : List RS} {r : Nat} (h : r < S.length) (x : RS) : (S.set r x).getD r rs0 = x := by
  rw [List.getD_eq_getElem?_getD, List.getElem?_set_self h]
  rfl
theorem getD_set_ne {S : List RS} {r i : Nat} (h : r ≠ i) (x : RS) : (S.set r x).getD i rs0 = S.getD i rs0 := by
  rw [List.getD_eq_getElem?_getD, List.getElem?_set_ne h, ← List.getD_eq_getElem?_getD]
theorem IvS.set {S : List RS} (h6 : S.length ≤ 6) (h : IvS S) {r : Nat} (hr : r < S.length) {x' : RS} (p0 : ByteArray) (hc : (S.getD r rs0).cm r ≤ x'.cm r) (hq : ∀ p, p ≠ p0 → Adopt S.length (flS S) (fl x'.E p) p) (hp : Adopt S.length (flS S) (fl x'.E p0) p0 ∨ NewV S.length (CS S) (CS (S.set r x')) r (fl x'.E p0)) : IvS (S.set r x') := by
  unfold IvS at *
  rw [List.length_set]
  have e : ∀ p, flS (S.set r x') r p = fl x'.E p := fun p => by unfold flS; rw [getD_set_self hr]
  have e' : ∀ i p, r ≠ i → flS (S.set r x') i p = flS S i p := fun i p hi => by unfold flS; rw [getD_set_ne hi]
  refine h.step h6 (fun j hj => ?_) r p0 (fun i hi p hip => ?_) ?_
  · unfold CS
    by_cases q : r = j
    · subst q; rw [getD_set_self hr]; exact hc
    · rw [getD_set_ne q]; exact Int.le_refl _
  · by_cases q : r = i
    · subst q
      rw [e]
      rcases hip with q | q
      · exact absurd rfl q
      · exact hq p q
    · rw [e' i p q]
      exact .inr ⟨i, hi, sameF.refl _⟩
  · rw [e]
    exact hp
theorem adopt_own {S : List RS} {r : Nat} (hr : r < S.length) {E' : Recs} {p : ByteArray} (h : sameF (fl E' p) (fl (S.getD r rs0).E p)) : Adopt S.length (flS S) (fl E' p) p := .inr ⟨r, hr, h⟩
theorem IvS.next {S : List RS} (h6 : S.length ≤ 6) (h : IvS S) {B : Int} (hW : Wf B S) {r : Nat} (hr : r < S.length) {p : ByteArray} {R : Rec} (hR : Adopt S.length (flS S) R p ∨ (0 < R.bn ∧ R.ch r = (S.getD r rs0).cm r + 1 ∧ (∀ j < S.length, R.ch j ≤ CS (S.set r ⟨nxG r (S.getD r rs0).cm, keepE (nxG r (S.getD r rs0).cm) p R (S.getD r rs0).E⟩) j) ∧ ∃ b : Nat, b < 6 ∧ R.br = b ∧ R.bn ≤ R.ch b)) : IvS (S.set r ⟨nxG r (S.getD r rs0).cm, keepE (nxG r (S.getD r rs0).cm) p R (S.getD r rs0).E⟩) := by
  have hw := hW.at (getD_at hr)
  have hns := nxG_self r (by omega) (S.getD r rs0).cm (hw.lo r)
  refine h.set h6 hr p (by show _ ≤ nxG r _ r; rw [hns]; omega) (fun q hq => adopt_own hr (by rw [(fl_keep hw.ris).1 hq]; exact sameF.refl _)) ?_
  rcases (fl_keep (cm := nxG r (S.getD r rs0).cm) (p := p) (q := p) (R := R) hw.ris).2 with e | ⟨e1, e2⟩
  · rcases hR with hR | ⟨h1, h2, h3, h4⟩
    · left
      show Adopt _ _ (fl (keepE _ p R _) p) p
      rw [e]; exact hR
    · right
      show NewV _ _ _ r (fl (keepE _ p R _) p)
      rw [e]
      refine ⟨hr, ?_, ?_, h3, h4⟩
      · unfold CS
        rw [getD_set_self hr, h2]
        exact hns.symm
      · unfold CS
        rw [getD_set_self hr]
        show _ < nxG r _ r
        rw [hns]; omega
  · refine .inl (.inl ?_)
    show ¬ 0 < (fl (keepE _ p R _) p).bn ∧ _
    rw [e2]
    exact ⟨by simp [recN], fun _ => rfl⟩
theorem CS_next {S : List RS} {B : Int} (hW : Wf B S) (h6 : S.length ≤ 6) {r : Nat} (hr : r < S.length) (E : Recs) (j : Nat) (hj : j < S.length) : CS (S.set r ⟨nxG r (S.getD r rs0).cm, E⟩) j = if j = r then CS S r + 1 else CS S j := by
  unfold CS
  by_cases e : j = r
  · subst e
    rw [if_pos rfl, getD_set_self hr]
    exact nxG_self j (by omega) _ ((hW.at (getD_at hr)).lo j)
  · rw [if_neg e, getD_set_ne (fun q => e q.symm)]
theorem ivs_write {S : List RS} (h6 : S.length ≤ 6) (h : IvS S) {B : Int} (hW : Wf B S) {r : Nat} (hr : r < S.length) (p t : ByteArray) : IvS (S.set r (wrR r (S.getD r rs0) p t).2) := by
  unfold wrR
  split
  · rw [set_self (getD_at hr)]; exact h
  · have hw := hW.at (getD_at hr)
    refine h.next h6 hW hr (.inr ?_)
    obtain ⟨f1, f2, f3, f4⟩ := recG_fl r (S.getD r rs0).cm (S.getD r rs0).E p
    have lo := hw.lo r
    have F : fl (S.getD r rs0).E p = flS S r p := rfl
    generalize recG r (S.getD r rs0).cm (getE p (S.getD r rs0).E) = R0 at *
    have ech : ∀ j, (writtenG r ((S.getD r rs0).cm r + 1) t R0).ch j = gboth R0.ch (tf r ((S.getD r rs0).cm r + 1)) j := fun j => rfl
    have ebn : (writtenG r ((S.getD r rs0).cm r + 1) t R0).bn = if 0 < R0.bn then R0.bn else (S.getD r rs0).cm r + 1 := rfl
    have ebr : (writtenG r ((S.getD r rs0).cm r + 1) t R0).br = if 0 < R0.bn then R0.br else (r : Int) := rfl
    have hle : ∀ j < S.length, R0.ch j ≤ CS S j := fun j hj => by rw [f4, F]; exact h.i3 r hr p j hj
    have hx : CS S r = (S.getD r rs0).cm r := rfl
    have tr : tf r ((S.getD r rs0).cm r + 1) r = (S.getD r rs0).cm r + 1 := tf_self r _ (by omega)
    have er : gboth R0.ch (tf r ((S.getD r rs0).cm r + 1)) r = (S.getD r rs0).cm r + 1 := by
      have h1 := gboth_lo R0.ch (tf r ((S.getD r rs0).cm r + 1)) r
      have h2 := gboth_le (a := R0.ch) (b := tf r ((S.getD r rs0).cm r + 1)) (i := r) (B := (S.getD r rs0).cm r + 1) (by omega) (by have := hle r hr; omega) (by omega)
      omega
    refine ⟨?_, ?_, fun j hj => ?_, ?_⟩
    · rw [ebn]; split <;> omega
    · rw [ech, er]
    · rw [ech, CS_next hW h6 hr _ j hj]
      by_cases e : j = r
      · subst e
        rw [if_pos rfl, er, hx]
        exact Int.le_refl _
      · rw [if_neg e]
        refine gboth_le (h.c0 j hj) (hle j hj) ?_
        rw [tf_eq _ _ _ (by omega), if_neg e]
        exact h.c0 j hj
    · by_cases hb : 0 < R0.bn
      · obtain ⟨b, b1, b2, b3⟩ := h.i1 r hr p (by rw [← F, ← f3]; exact hb)
        refine ⟨b, b1, ?_, ?_⟩
        · rw [ebr, if_pos hb, f2]; exact b2
        · rw [ebn, if_pos hb, ech]
          have := (gboth_lo R0.ch (tf r ((S.getD r rs0).cm r + 1)) b).2.1
          rw [← F, ← f3, ← f4] at b3
          omega
      · refine ⟨r, by omega, by rw [ebr, if_neg hb], ?_⟩
        rw [ebn, if_neg hb, ech, er]
        exact Int.le_refl _
theorem ivs_remove {S : List RS} (h6 : S.length ≤ 6) (h : IvS S) {B : Int} (hW : Wf B S) {r : Nat} (hr : r < S.length) (p : ByteArray) : IvS (S.set r (rmR r (S.getD r rs0) p).2) := by
  unfold rmR
  split
  · rw [set_self (getD_at hr)]; exact h
  · split
    · rw [set_self (getD_at hr)]; exact h
    · exact h.next h6 hW hr (.inl (.inl ⟨by simp [removedG], fun _ => rfl⟩))
theorem adopt_pull {S : List RS} {r f : Nat} (hr : r < S.length) (hf : f < S.length) (cm cm' : Nat → Int) (p : ByteArray) : Adopt S.length (flS S) (pullR (recG r cm (getE p (S.getD r rs0).E)) (recG f cm' (getE p (S.getD f rs0).E))).1 p := by
  rcases pullR_file (recG r cm (getE p (S.getD r rs0).E)) (recG f cm' (getE p (S.getD f rs0).E)) with q | q | ⟨q, q'⟩
  · exact .inr ⟨r, hr, q.trans (recG_fl _ _ _ _)⟩
  · exact .inr ⟨f, hf, q.trans (recG_fl _ _ _ _)⟩
  · exact .inl ⟨by omega, q'⟩
theorem adopt_N {S : List RS} (p : ByteArray) : Adopt S.length (flS S) recN p := .inl ⟨by simp [recN], fun _ => rfl⟩
theorem fl_pull {B : Int} {x y : RS} (hx : Wf1 B x) (hy : Wf1 B y) (h0 : 0 ≤ B) (r f : Nat) (p : ByteArray) : fl (plR r x f y).2.1.E p = (pullR (recG r x.cm (getE p x.E)) (recG f y.cm (getE p y.E))).1 ∨ (¬ 0 < (pullR (recG r x.cm (getE p x.E)) (recG f y.cm (getE p y.E))).1.bn ∧ fl (plR r x f y).2.1.E p = recN) := by
  rw [(pl_wf hx hy h0).2.2.2]
  have hE : RisingK (x.E.map (·.1)) := by
    unfold RisingK
    rw [List.pairwise_map]
    exact hx.ris
  obtain ⟨u1, u2⟩ := union_spec (y.E.map (·.1)) _ hE
  have hg := get_fold (s := r) (cm := x.cm) (E := x.E) (s' := f) (cm' := y.cm) (E' := y.E) p _ ([], []) List.Pairwise.nil u1
  have he : fl (allP r x.cm x.E f y.cm y.E).1 p = (getE p ((unionK (x.E.map (·.1)) (y.E.map (·.1))).foldl (stepA r x.cm x.E f y.cm y.E) ([], [])).1).getD recN := rfl
  show fl (allP r x.cm x.E f y.cm y.E).1 p = _ ∨ _ ∧ fl (allP r x.cm x.E f y.cm y.E).1 p = _
  rw [he, hg]
  split
  · rcases kept_file (gboth x.cm y.cm) (pullR (recG r x.cm (getE p x.E)) (recG f y.cm (getE p y.E))).1 with e | ⟨e, h⟩
    · rw [e]; exact .inl rfl
    · rw [e]; exact .inr ⟨h, rfl⟩
  · next hu =>
    have hne : ∀ E : Recs, (p ∈ E.map (·.1) → False) → getE p E = none := fun E h => by
      cases hg : getE p E with
      | none => rfl
      | some R => exact (h (List.mem_map.2 ⟨_, mem_getE hg, rfl⟩)).elim
    refine .inr ⟨?_, rfl⟩
    rw [hne x.E (fun h => hu ((u2 p).2 (.inl h))), hne y.E (fun h => hu ((u2 p).2 (.inr h)))]
    rcases pullR_cases (recG r x.cm none) (recG f y.cm none) with ⟨_, _, _, h⟩ | ⟨_, _, h, _⟩ | ⟨_, h1, h2⟩
    · simp [recG] at h
    · simp [recG] at h
    · rw [h2]; simp [recG]
theorem ivs_pull {S : List RS} (h6 : S.length ≤ 6) (h : IvS S) {B : Int} (h0 : 0 ≤ B) (hW : Wf B S) {r f : Nat} (hr : r < S.length) (hf : f < S.length) : IvS (S.set r (plR r (S.getD r rs0) f (S.getD f rs0)).2.1) := by
  have hx := hW.at (getD_at hr)
  have hy := hW.at (getD_at hf)
  have ad : ∀ p, Adopt S.length (flS S) (fl (plR r (S.getD r rs0) f (S.getD f rs0)).2.1.E p) p := fun p => by
    rcases fl_pull hx hy h0 r f p with e | ⟨_, e⟩
    · rw [e]; exact adopt_pull hr hf _ _ p
    · rw [e]; exact adopt_N p
  refine h.set h6 hr ⟨#[]⟩ ?_ (fun q _ => ad q) (.inl (ad _))
  rw [(pl_wf hx hy h0).2.2.2]
  exact (gboth_lo _ _ _).2.1
end Go.Proofs.YtaelaldmibgibaaGreat

namespace Go.Proofs.YtaelaldmibgibaaGreat
open Go.RowKit Go.Sim
open Classical

def thereS (a b : Rec) : Prop := (¬ 0 < a.bn ∧ ¬ 0 < b.bn) ∨ sameF a b
theorem thereS.refl (a : Rec) : thereS a a := .inr (sameF.refl a)
theorem thereS.trans {a b c : Rec} (h : thereS a b) (k : thereS b c) : thereS a c := by
  rcases h with ⟨h1, h2⟩ | h
  · rcases k with ⟨k1, k2⟩ | k
    · exact .inl ⟨h1, k2⟩
    · exact .inl ⟨h1, by rw [← k.2.2.1]; exact h2⟩
  · rcases k with ⟨k1, k2⟩ | k
    · exact .inl ⟨by rw [h.2.2.1]; exact k1, k2⟩
    · exact .inr (h.trans k)
theorem thereS.bn {a b : Rec} (h : thereS a b) : 0 < a.bn ↔ 0 < b.bn := by
  rcases h with ⟨h1, h2⟩ | h
  · exact ⟨fun q => absurd q h1, fun q => absurd q h2⟩
  · rw [h.2.2.1]
def vw (i : Nat) (x : RS) (p : ByteArray) : Rec := recG i x.cm (getE p x.E)
theorem vw_fl (i : Nat) (x : RS) (p : ByteArray) : sameF (vw i x p) (fl x.E p) := recG_fl i x.cm x.E p
structure Later (i : Nat) (x x' : RS) : Prop where
  file : ∀ p, thereS (fl x.E p) (fl x'.E p)
  kn : ∀ p, ∀ b < 6, (vw i x p).kn b ≤ (vw i x' p).kn b
theorem Later.refl (i : Nat) (x : RS) : Later i x x := ⟨fun _ => thereS.refl _, fun _ _ _ => Int.le_refl _⟩
theorem Later.trans {i : Nat} {x y z : RS} (h : Later i x y) (k : Later i y z) : Later i x z := ⟨fun p => (h.file p).trans (k.file p), fun p b hb => Int.le_trans (h.kn p b hb) (k.kn p b hb)⟩
def Silent (r : Nat) (x : RS) (f : Nat) (y : RS) : Prop := ∀ p, (pullR (vw r x p) (vw f y p)).2 = 0
theorem pullR_still {t f : Rec} (h : (pullR t f).2 = 0) : sameF (pullR t f).1 t ∧ ∀ b, t.kn b ≤ (pullR t f).1.kn b := by
  unfold pullR at h ⊢
  split
  · exact ⟨sameF.refl _, fun _ => Int.le_refl _⟩
  · next h1 =>
    rw [if_neg h1] at h
    split
    · next h2 => rw [if_pos h2] at h; simp at h
    · next h2 =>
      rw [if_neg h2] at h
      split
      · next h3 => rw [if_pos h3] at h; simp at h
      · next h3 =>
        rw [if_neg h3] at h
        split
        · next h4 => rw [if_pos h4] at h; simp at h
        · exact ⟨⟨rfl, rfl, rfl, rfl⟩, fun b => (gboth_lo _ _ b).2.1⟩
theorem eqT_iff {a b : Nat → Int} (h : eqT a b = true) : ∀ k < 6, a k = b k := by
  unfold eqT at h
  simp only [Bool.and_eq_true, beq_iff_eq] at h
  obtain ⟨h0, h1, h2, h3, h4, h5⟩ := h
  intro k hk
  match k, hk with
  | 0, _ => exact h0
  | 1, _ => exact h1
  | 2, _ => exact h2
  | 3, _ => exact h3
  | 4, _ => exact h4
  | 5, _ => exact h5
theorem silent_pull {B : Int} {x y : RS} (hx : Wf1 B x) (hy : Wf1 B y) (h0 : 0 ≤ B) {r f : Nat} (h : (plR r x f y).2.2 = []) : Silent r x f y ∧ Later r x (plR r x f y).2.1 := by
  have hs : Silent r x f y := fun p => by
    have := pl_told (r := r) (f := f) hx hy h0 p
    rw [h] at this
    exact this.symm
  refine ⟨hs, fun p => ?_, fun p b hb => ?_⟩
  · obtain ⟨h1, h2⟩ := pullR_still (hs p)
    have hv := vw_fl r x p
    rcases fl_pull hx hy h0 r f p with e | ⟨e1, e2⟩
    · rw [e]
      exact .inr (hv.symm.trans h1.symm)
    · rw [e2]
      left
      refine ⟨?_, by simp [recN]⟩
      rw [← hv.2.2.1, ← h1.2.2.1]
      exact e1
  · obtain ⟨h1, h2⟩ := pullR_still (hs p)
    have hp := (pl_wf (r := r) (f := f) hx hy h0).2.2.2
    have hE : RisingK (x.E.map (·.1)) := by
      unfold RisingK
      rw [List.pairwise_map]
      exact hx.ris
    obtain ⟨u1, u2⟩ := union_spec (y.E.map (·.1)) _ hE
    have hg := get_fold (s := r) (cm := x.cm) (E := x.E) (s' := f) (cm' := y.cm) (E' := y.E) p _ ([], []) List.Pairwise.nil u1
    have ev : vw r (plR r x f y).2.1 p = recG r (gboth x.cm y.cm) (getE p ((unionK (x.E.map (·.1)) (y.E.map (·.1))).foldl (stepA r x.cm x.E f y.cm y.E) ([], [])).1) := by
      unfold vw
      rw [hp]
      rfl
    have own : (vw r x p).kn r = x.cm r := by
      unfold vw
      cases getE p x.E with
      | none => rfl
      | some R => show upT R.kn r (x.cm r) r = _; unfold upT; rw [if_pos rfl]
    rw [ev, hg]
    split
    · have hR := h2 b
      change (vw r x p).kn b ≤ (pullR (vw r x p) (vw f y p)).1.kn b at hR
      change (vw r x p).kn b ≤ (recG r (gboth x.cm y.cm) (kept (gboth x.cm y.cm) (pullR (vw r x p) (vw f y p)).1)).kn b
      generalize (pullR (vw r x p) (vw f y p)).1 = R at *
      unfold kept
      split
      · show _ ≤ upT R.kn r (gboth x.cm y.cm r) b
        unfold upT
        split
        · next e => subst e; rw [own]; exact (gboth_lo _ _ _).2.1
        · exact hR
      · next hk =>
        simp only [Bool.or_eq_true, not_or] at hk
        have : eqT R.kn (gboth x.cm y.cm) = true := by simpa using hk.2
        show _ ≤ gboth x.cm y.cm b
        rw [← eqT_iff this b hb]
        exact hR
    · next hu =>
      have hne : ∀ E : Recs, (p ∈ E.map (·.1) → False) → getE p E = none := fun E h => by
        cases hg : getE p E with
        | none => rfl
        | some R => exact (h (List.mem_map.2 ⟨_, mem_getE hg, rfl⟩)).elim
      have e1 := hne x.E (fun h => hu ((u2 p).2 (.inl h)))
      have e2 : vw r x p = recG r x.cm none := by unfold vw; rw [e1]
      rw [e2]
      show x.cm b ≤ gboth x.cm y.cm b
      exact (gboth_lo _ _ _).2.1
theorem leB_le {a b : Nat → Int} (h : leB a b = true) : ∀ k < 6, a k ≤ b k := by
  intro k hk
  have := eqT_iff h k hk
  have := (gboth_lo a b k).2.1
  omega
theorem meet2 {a a' b : Rec} (h1 : (pullR a b).2 = 0) (h2 : (pullR b a').2 = 0) (hf : thereS a a') (hk : ∀ k < 6, a.kn k ≤ a'.kn k) (ia : 0 < a.bn → ∃ c : Nat, c < 6 ∧ a.br = c ∧ a.bn ≤ a.ch c) (ib : 0 < b.bn → ∃ c : Nat, c < 6 ∧ b.br = c ∧ b.bn ≤ b.ch c) :
    (¬ 0 < a.bn ∧ ¬ 0 < b.bn) ∨ (0 < a.bn ∧ 0 < b.bn ∧ a.br = b.br ∧ a.bn = b.bn ∧ ∀ k < 6, a.ch k = b.ch k) := by
  by_cases ha : 0 < a.bn
  · have ha' : 0 < a'.bn := hf.bn.1 ha
    have hs : sameF a a' := by
      rcases hf with ⟨q, _⟩ | q
      · exact absurd ha q
      · exact q
    obtain ⟨c, c1, c2, c3⟩ := ia ha
    by_cases hb : 0 < b.bn
    · right
      have w1 : whatP a b = inB a b := by unfold whatP; rw [if_pos (by simp [ha, hb])]
      have w2 : whatP b a' = inB b a' := by unfold whatP; rw [if_pos (by simp [ha', hb])]
      have s1 : isStr b a = false := by unfold isStr; simp [hb]
      have s2 : isStr a' b = false := by unfold isStr; simp [ha']
      have z1 : inB a b = 0 := by
        unfold pullR at h1
        rw [s1, w1] at h1
        simp only [Bool.false_eq_true, if_false] at h1
        unfold inB at h1 ⊢
        (repeat' split at h1) <;> simp_all
      have z2 : inB b a' = 0 := by
        unfold pullR at h2
        rw [s2, w2] at h2
        simp only [Bool.false_eq_true, if_false] at h2
        unfold inB at h2 ⊢
        (repeat' split at h2) <;> simp_all
      by_cases hv : isVer a b = true
      · unfold isVer at hv
        simp only [Bool.and_eq_true, beq_iff_eq] at hv
        exact ⟨ha, hb, hv.1.1, hv.1.2, eqT_iff hv.2⟩
      · exfalso
        have hv' : ¬ isVer b a' = true := fun q => hv (by
          unfold isVer at q ⊢
          simp only [Bool.and_eq_true, beq_iff_eq] at q ⊢
          refine ⟨⟨by rw [hs.2.1]; exact q.1.1.symm, by rw [hs.2.2.1]; exact q.1.2.symm⟩, ?_⟩
          have := eqT_iff q.2
          unfold eqT
          simp only [Bool.and_eq_true, beq_iff_eq]
          rw [hs.2.2.2]
          exact ⟨(this 0 (by omega)).symm, (this 1 (by omega)).symm, (this 2 (by omega)).symm, (this 3 (by omega)).symm, (this 4 (by omega)).symm, (this 5 (by omega)).symm⟩)
        unfold inB at z1 z2
        rw [if_neg hv] at z1
        rw [if_neg hv'] at z2
        rw [← hs.2.2.2] at z2
        (repeat' split at z1) <;> (repeat' split at z2) <;> simp_all
    · exfalso
      have hst : isStr b a = true := by
        cases q : isStr b a with
        | true => rfl
        | false =>
          exfalso
          unfold pullR at h1
          have w1 : whatP a b = inT a b := by unfold whatP; simp [ha, hb]
          rw [q, w1] at h1
          unfold inT at h1
          (repeat' split at h1) <;> simp_all
      have hnb : ¬ a.bn ≤ b.kn c := by
        unfold isStr hasB at hst
        simp only [Bool.and_eq_true, Bool.not_eq_true', decide_eq_false_iff_not] at hst
        rw [c2] at hst
        simpa using hst.2
      have hle : leB a'.ch b.kn = true := by
        unfold pullR at h2
        have s2 : isStr a' b = false := by unfold isStr; simp [hb]
        have w2 : whatP b a' = inF b a' := by unfold whatP; simp [ha', hb]
        rw [s2, w2] at h2
        unfold inF at h2
        (repeat' split at h2) <;> simp_all
      rw [← hs.2.2.2] at hle
      have := leB_le hle c c1
      omega
  · have ha' : ¬ 0 < a'.bn := fun q => ha (hf.bn.2 q)
    by_cases hb : 0 < b.bn
    · exfalso
      obtain ⟨c, c1, c2, c3⟩ := ib hb
      have hle : leB b.ch a.kn = true := by
        unfold pullR at h1
        have s1 : isStr b a = false := by unfold isStr; simp [ha]
        have w1 : whatP a b = inF a b := by unfold whatP; simp [ha, hb]
        rw [s1, w1] at h1
        unfold inF at h1
        (repeat' split at h1) <;> simp_all
      have hst : isStr a' b = true := by
        cases q : isStr a' b with
        | true => rfl
        | false =>
          exfalso
          unfold pullR at h2
          have w2 : whatP b a' = inT b a' := by unfold whatP; simp [ha', hb]
          rw [q, w2] at h2
          unfold inT at h2
          (repeat' split at h2) <;> simp_all
      have hnb : ¬ b.bn ≤ a'.kn c := by
        unfold isStr hasB at hst
        simp only [Bool.and_eq_true, Bool.not_eq_true', decide_eq_false_iff_not] at hst
        rw [c2] at hst
        simpa using hst.2
      have h5 := leB_le hle c c1
      have h6 := hk c c1
      omega
    · exact .inl ⟨ha, hb⟩
end Go.Proofs.YtaelaldmibgibaaGreat

namespace Go.Proofs.YtaelaldmibgibaaGreat
open Go.RowKit Go.Sim
open Classical

def pullS (S : List RS) (r f : Nat) : List RS := S.set r (plR r (S.getD r rs0) f (S.getD f rs0)).2.1
def pullL (S : List RS) (r f : Nat) : List (ByteArray × Int) := (plR r (S.getD r rs0) f (S.getD f rs0)).2.2
theorem pullS_len (S : List RS) (r f : Nat) : (pullS S r f).length = S.length := by unfold pullS; rw [List.length_set]
def EqF (x y : RS) : Prop := ∀ p, (0 < (fl x.E p).bn ↔ 0 < (fl y.E p).bn) ∧ (0 < (fl x.E p).bn → (fl x.E p).text = (fl y.E p).text)
theorem EqF.later {i : Nat} {x x' y y' : RS} (h : EqF x y) (hx : ∀ p, thereS (fl x.E p) (fl x'.E p)) (hy : ∀ p, thereS (fl y.E p) (fl y'.E p)) : EqF x' y' := fun p => by
  obtain ⟨h1, h2⟩ := h p
  have a := (hx p).bn
  have b := (hy p).bn
  refine ⟨a.symm.trans (h1.trans b), fun q => ?_⟩
  have qa := a.2 q
  have qb := h1.1 qa
  have ea : (fl x.E p).text = (fl x'.E p).text := by
    rcases hx p with ⟨q, _⟩ | q
    · exact absurd qa q
    · exact q.1
  have eb : (fl y.E p).text = (fl y'.E p).text := by
    rcases hy p with ⟨q, _⟩ | q
    · exact absurd qb q
    · exact q.1
  rw [← ea, ← eb]
  exact h2 qa
def HA (S : List RS) (j : Nat) : Prop := ∃ x, Later 0 x (S.getD 0 rs0) ∧ Silent 0 x j (S.getD j rs0)
structure PH (n : Nat) (S : List RS) (r f : Nat) : Prop where
  eq : ∀ j, 1 ≤ j → j < n → (j < r ∨ (j = r ∧ 0 < f)) → EqF (S.getD 0 rs0) (S.getD j rs0)
  ha : ∀ j, 1 ≤ j → j < n → (r = 0 → j < f) → (r < j ∨ (r = j ∧ f = 0)) → HA S j
theorem PH.start (n : Nat) (S : List RS) : PH n S 0 0 := ⟨fun j h1 _ h => by omega, fun j h1 _ h _ => by have := h rfl; omega⟩
theorem PH.skip {n : Nat} {S : List RS} {r : Nat} (h : PH n S r r) : PH n S r (r + 1) := by
  refine ⟨fun j h1 h2 h3 => ?_, fun j h1 h2 h3 h4 => ?_⟩
  · rcases h3 with q | ⟨q, _⟩
    · exact h.eq j h1 h2 (.inl q)
    · exact h.eq j h1 h2 (.inr ⟨q, by omega⟩)
  · exact h.ha j h1 h2 (fun e => by have := h3 e; omega) (.inl (by omega))
theorem PH.next {n : Nat} (hn : 2 ≤ n) {S : List RS} {r : Nat} (h : PH n S r n) : PH n S (r + 1) 0 := by
  refine ⟨fun j h1 h2 h3 => ?_, fun j h1 h2 h3 h4 => ?_⟩
  · rcases h3 with q | ⟨_, q⟩
    · by_cases e : j = r
      · exact h.eq j h1 h2 (.inr ⟨e, by omega⟩)
      · exact h.eq j h1 h2 (.inl (by omega))
    · omega
  · exact h.ha j h1 h2 (fun _ => h2) (.inl (by omega))
theorem PH.done {n : Nat} {S : List RS} (h : PH n S n 0) : ∀ j, 1 ≤ j → j < n → EqF (S.getD 0 rs0) (S.getD j rs0) := fun j h1 h2 => h.eq j h1 h2 (.inl h2)
theorem PH.step {n : Nat} {S : List RS} (h6 : n ≤ 6) (hS : S.length = n) {B : Int} (h0 : 0 ≤ B) (hW : Wf B S) (hI : IvS S) {r f : Nat} (hr : r < n) (hf : f < n) (hrf : r ≠ f) (h : PH n S r f) (hq : pullL S r f = []) : PH n (pullS S r f) r (f + 1) := by
  have hx := hW.at (getD_at (S := S) (r := r) (by omega))
  have hy := hW.at (getD_at (S := S) (r := f) (by omega))
  obtain ⟨sil, lat⟩ := silent_pull hx hy h0 hq
  have es : (pullS S r f).getD r rs0 = (plR r (S.getD r rs0) f (S.getD f rs0)).2.1 := getD_set_self (by omega) _
  have en : ∀ i, r ≠ i → (pullS S r f).getD i rs0 = S.getD i rs0 := fun i hi => getD_set_ne hi _
  have file : ∀ i p, thereS (fl (S.getD i rs0).E p) (fl ((pullS S r f).getD i rs0).E p) := fun i p => by
    by_cases e : r = i
    · subst e; rw [es]; exact lat.file p
    · rw [en i e]; exact thereS.refl _
  have keepE' : ∀ j, EqF (S.getD 0 rs0) (S.getD j rs0) → EqF ((pullS S r f).getD 0 rs0) ((pullS S r f).getD j rs0) := fun j q => EqF.later (i := 0) q (file 0) (file j)
  refine ⟨fun j h1 h2 h3 => ?_, fun j h1 h2 h3 h4 => ?_⟩
  · rcases h3 with q | ⟨q, _⟩
    · exact keepE' j (h.eq j h1 h2 (.inl q))
    · subst q
      by_cases e : f = 0
      · subst e
        apply keepE'
        obtain ⟨x, hl, hs⟩ := h.ha j h1 h2 (fun e => by omega) (.inr ⟨rfl, rfl⟩)
        intro p
        have ia : ∀ (i : Nat) (x' : RS) (q : ByteArray), i < n → thereS (fl x'.E q) (fl (S.getD i rs0).E q) → ∀ a : Rec, sameF a (fl x'.E q) → 0 < a.bn → ∃ c : Nat, c < 6 ∧ a.br = c ∧ a.bn ≤ a.ch c := by
          intro i x' q hi ht a ha hb
          have hb' : 0 < (fl x'.E q).bn := by rw [← ha.2.2.1]; exact hb
          have hs' : sameF (fl x'.E q) (fl (S.getD i rs0).E q) := by
            rcases ht with ⟨q, _⟩ | q
            · exact absurd hb' q
            · exact q
          obtain ⟨c, c1, c2, c3⟩ := hI.i1 i (by omega) q (by show 0 < (fl (S.getD i rs0).E q).bn; rw [← hs'.2.2.1]; exact hb')
          have c2' : (fl (S.getD i rs0).E q).br = (c : Int) := c2
          have c3' : (fl (S.getD i rs0).E q).bn ≤ (fl (S.getD i rs0).E q).ch c := c3
          exact ⟨c, c1, by rw [ha.2.1, hs'.2.1]; exact c2', by rw [ha.2.2.1, ha.2.2.2, hs'.2.2.1, hs'.2.2.2]; exact c3'⟩
        have m := meet2 (a := vw 0 x p) (a' := vw 0 (S.getD 0 rs0) p) (b := vw j (S.getD j rs0) p) (hs p) (sil p) (by
            rcases hl.file p with ⟨q1, q2⟩ | q
            · exact .inl ⟨by rw [(vw_fl 0 x p).2.2.1]; exact q1, by rw [(vw_fl 0 (S.getD 0 rs0) p).2.2.1]; exact q2⟩
            · exact .inr ((vw_fl 0 x p).trans (q.trans (vw_fl 0 (S.getD 0 rs0) p).symm))) (hl.kn p)
          (ia 0 x p (by omega) (hl.file p) _ (vw_fl 0 x p)) (ia j (S.getD j rs0) p (by omega) (thereS.refl _) _ (vw_fl j (S.getD j rs0) p))
        have e1 := vw_fl 0 x p
        have e2 := vw_fl j (S.getD j rs0) p
        have b0 := (hl.file p).bn
        rcases m with ⟨m1, m2⟩ | ⟨m1, m2, m3, m4, m5⟩
        · rw [e1.2.2.1] at m1
          rw [e2.2.2.1] at m2
          have n1 : ¬ 0 < (fl (S.getD 0 rs0).E p).bn := fun q => m1 (b0.2 q)
          exact ⟨⟨fun q => absurd q n1, fun q => absurd q m2⟩, fun q => absurd q n1⟩
        · rw [e1.2.2.1] at m1
          rw [e2.2.2.1] at m2
          have n1 : 0 < (fl (S.getD 0 rs0).E p).bn := b0.1 m1
          have hs' : sameF (fl x.E p) (fl (S.getD 0 rs0).E p) := by
            rcases hl.file p with ⟨q, _⟩ | q
            · exact absurd m1 q
            · exact q
          refine ⟨⟨fun _ => m2, fun _ => n1⟩, fun _ => ?_⟩
          have := hI.i2 0 (by omega) j (by omega) p n1 m2 (by
              show (fl (S.getD 0 rs0).E p).br = (fl (S.getD j rs0).E p).br
              rw [← hs'.2.1, ← e1.2.1, ← e2.2.1]; exact m3) (by
              show (fl (S.getD 0 rs0).E p).bn = (fl (S.getD j rs0).E p).bn
              rw [← hs'.2.2.1, ← e1.2.2.1, ← e2.2.2.1]; exact m4) (fun k hk => by
              show (fl (S.getD 0 rs0).E p).ch k = (fl (S.getD j rs0).E p).ch k
              rw [← hs'.2.2.2, ← e1.2.2.2, ← e2.2.2.2]; exact m5 k hk)
          exact this
      · exact keepE' j (h.eq j h1 h2 (.inr ⟨rfl, by omega⟩))
  · by_cases e0 : r = 0
    · subst e0
      have hj : j < f + 1 := h3 rfl
      have hj0 : (0 : Nat) ≠ j := by omega
      by_cases ejf : j = f
      · subst ejf
        exact ⟨S.getD 0 rs0, by rw [es]; exact lat, by rw [en j hj0]; exact sil⟩
      · obtain ⟨x, hl, hs⟩ := h.ha j h1 h2 (fun _ => by omega) (.inl (by omega))
        exact ⟨x, by rw [es]; exact hl.trans lat, by rw [en j hj0]; exact hs⟩
    · have hrj : r < j := by
        rcases h4 with q | ⟨_, q⟩
        · exact q
        · omega
      obtain ⟨x, hl, hs⟩ := h.ha j h1 h2 (fun e => absurd e e0) (.inl hrj)
      exact ⟨x, by rw [en 0 e0]; exact hl, by rw [en j (by omega)]; exact hs⟩
theorem EqF.read {x y : RS} (h : EqF x y) (i j : Nat) {p : ByteArray} (hp : 0 < (fl x.E p).bn) : rdR i x p = rdR j y p ∧ (rdR i x p).2 = 0 := by
  obtain ⟨h1, h2⟩ := h p
  have a := recG_fl i x.cm x.E p
  have b := recG_fl j y.cm y.E p
  rw [rdR_rec, rdR_rec]
  unfold rdRec
  rw [a.2.2.1, a.1, b.2.2.1, b.1]
  have q := h1.1 hp
  simp [hp, q, h2 hp]
end Go.Proofs.YtaelaldmibgibaaGreat

namespace Go.Proofs.YtaelaldmibgibaaGreat
open Go.RowKit Go.Sim

end Go.Proofs.YtaelaldmibgibaaGreat

namespace Go.Proofs.YtaelaldmibgibaaGreat
open Go.RowKit Go.Sim

def pText : ByteArray := ⟨#[116, 101, 120, 116]⟩
def zero0 : RS := ⟨fun _ => 0, []⟩
def beg0 : RS := (wrR 0 zero0 pFirst pText).2
def beg1 : RS := (plR 1 zero0 0 beg0).2.1
theorem beg_a : (wrR 0 zero0 pFirst pText).1 = 0 := by decide
theorem beg_b : (plR 1 zero0 0 beg0).1 = 0 := by kernel_rfl
theorem beg_c : (plR 1 zero0 0 beg0).2.2 = [(pFirst, 1)] := by kernel_rfl
theorem beg_d : rdR 1 beg1 pFirst = (pText, 0) := by kernel_rfl
def begS (n : Nat) : List RS := ((newS n).set 0 beg0).set 1 beg1
theorem in_first : pFirst ∈ PATHS := List.mem_cons_self ..
end Go.Proofs.YtaelaldmibgibaaGreat
