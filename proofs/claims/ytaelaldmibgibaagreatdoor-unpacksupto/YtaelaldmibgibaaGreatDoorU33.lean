/- What reading records needs: a replica of the program's with any records. -/
import Derived.Test.YtaelaldmibgibaaGreatDoorU31
import Derived.Test.YtaelaldmibgibaaGreatDoorU32

set_option linter.unusedVariables false
set_option linter.unusedSimpArgs false

namespace Go.Proofs.YtaelaldmibgibaaGreatDoor
open Go.RowKit Go.Lib Go.Maps

/-- a replica of the program's: its common time, its records -/
structure Rp (w : World) (rb s : Nat) (cm : Nat → Int) (mb : Nat) (E : Recs) : Prop where
  rep : RepAt w rb s cm mb
  own : w.ownsMap Tryz.prog 9 recElem mb E.length (datOf E)
  ris : RisingE E
section
variable {w w' : World} {rb s mb : Nat} {cm : Nat → Int} {E : Recs}
theorem Rp.keep (h : Rp w rb s cm mb E) (h1 : w'.heap[rb]? = w.heap[rb]?) (h2 : w'.heap[mb]? = w.heap[mb]?) : Rp w' rb s cm mb E := ⟨h.rep.keep h1, ownsMap_keep h.own h2, h.ris⟩
theorem Rp.below (h : Rp w rb s cm mb E) (hb : Below w.heap.size w w') : Rp w' rb s cm mb E := h.keep (hb.block _ h.rep.lt) (hb.block _ h.own.lt)
end
theorem Glob.fr {w w' : World} {S : Nat → Prop} (h : Glob w) (hf : Fr S w w') (hS : ∀ k, k < 8 → ¬ S k) : Glob w' := by
  have hsz := h.sz
  refine ⟨?_, ?_, ?_, ?_, Nat.le_trans h.sz hf.size⟩
  · obtain ⟨m, q⟩ := h.max; exact ⟨m, (hf.cell (p := ⟨0, 0, none⟩) (by simp only; omega) (hS 0 (by omega))).trans q⟩
  · obtain ⟨a, b, q⟩ := h.syn; exact ⟨a, b, (hf.cell (p := ⟨2, 0, none⟩) (by simp only; omega) (hS 2 (by omega))).trans q⟩
  · obtain ⟨a, b, q⟩ := h.rng; exact ⟨a, b, (hf.cell (p := ⟨3, 0, none⟩) (by simp only; omega) (hS 3 (by omega))).trans q⟩
  · have h1 := h.tab
    unfold Lib.TabIs World.var? at *
    rw [glob_pow] at *
    simp only [Option.bind_eq_bind, Option.bind_some] at *
    rw [hf.block 1 (by omega) (hS 1 (by omega))]
    exact h1
theorem le_slt (p q : ByteArray) : (slt p q || seq p q) = !slt q p := by
  cases e : slt q p with
  | true =>
    rw [slt_asymm e, seq_false (fun h => slt_ne e h.symm)]
    rfl
  | false =>
    cases e' : slt p q with
    | true => rfl
    | false => rw [(seq_iff p q).2 (slt_tri e' e)]; rfl
theorem toE_put (D : Drs) (p : ByteArray) (d : DS) (h : ∀ y ∈ D, slt y.1 p = true) : putE p (toRec d) (toE D) = toE (D ++ [(p, d)]) := by
  unfold putE
  rw [filter_all _ _ (fun x hx => ?_), filter_none _ _ (fun x hx => ?_)]
  · simp [toE]
  · obtain ⟨y, hy, rfl⟩ := List.mem_map.1 hx
    exact slt_asymm (h y hy)
  · obtain ⟨y, hy, rfl⟩ := List.mem_map.1 hx
    exact h y hy
theorem toE_len (D : Drs) : (toE D).length = D.length := by simp [toE]
theorem toE_rise {D : Drs} (h : D.Pairwise (fun x y => slt x.1 y.1 = true)) : RisingE (toE D) := by
  unfold RisingE toE
  rw [List.pairwise_map]
  exact h

/-- keep of a record that must be kept -/
theorem keep_must (rb s : Nat) (cm : Nat → Int) (mb : Nat) (w : World) (E : Recs) (h : Rp w rb s cm mb E) (hl : E.length < maxLen) (p : ByteArray) (hp : p.size ≤ 1000000000000) (R : Rec) (h0 : 0 ≤ R.bn) (hk : (decide (0 < R.bn) || !eqT R.kn cm) = true) :
    Calls Tryz.prog 112 #[.pointer (some ⟨rb, 0, none⟩), .string p, recVal R] w fun e w' => e = .returned (.tuple #[]) ∧ Rp w' rb s cm mb (putE p R E) ∧ Fr (fun k => k = mb) w w' := by
  unfold recVal
  by_cases hb : 0 < R.bn
  · refine (keep_in rb s cm mb w h.rep E h.ris hl h.own p hp R hb).mono ?_
    rintro e w' ⟨rfl, h1, h2, h3⟩
    exact ⟨rfl, ⟨h1, h2, rising_put p R E h.ris⟩, h3⟩
  · refine (keep_kn rb s cm mb w h.rep E h.ris hl h.own p hp R (by omega) (by simpa [hb] using hk)).mono ?_
    rintro e w' ⟨rfl, h1, h2, h3⟩
    exact ⟨rfl, ⟨h1, h2, rising_put p R E h.ris⟩, h3⟩

end Go.Proofs.YtaelaldmibgibaaGreatDoor
