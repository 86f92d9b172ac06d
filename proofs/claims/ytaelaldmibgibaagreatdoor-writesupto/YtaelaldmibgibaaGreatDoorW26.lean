/- The program's replica: Remove. The program's net as a whole, against a net without memory (PNet). The program's net: Remove, Read, List, Look. The program's New. -/
import Derived.Test.YtaelaldmibgibaaGreatDoorW25
import Derived.Test.YtaelaldmibgibaaGreatDoorW16

set_option linter.unusedVariables false
set_option linter.unusedSimpArgs false

namespace Go.Proofs.YtaelaldmibgibaaGreatDoor
open Go.RowKit Go.Maps

theorem eqT_of {t u : Nat → Int} (h : ∀ j, j < 6 → t j = u j) : eqT t u = true := by
  unfold eqT
  rw [h 0 (by omega), h 1 (by omega), h 2 (by omega), h 3 (by omega), h 4 (by omega), h 5 (by omega)]
  simp
theorem gone_kn {w : World} {rb s mb : Nat} {c : Int} {E : Recs} (h : PRep w rb s mb c E) (p : ByteArray) : eqT (gboth (recOf s c (getE p E)).kn (tf s (c + 1))) (tf s (c + 1)) = true := by
  apply eqT_of
  intro j hj
  by_cases hs : j = s
  · subst hs
    have hc := h.c0
    have e : (recOf j c (getE p E)).kn j = c := by
      cases getE p E with
      | none => exact tf_self j c hj
      | some R =>
        show upT R.kn j c j = c
        unfold upT
        rw [if_pos rfl]
    unfold gboth g1 zer
    rw [e, tf_self j (c + 1) hj]
    (repeat' split) <;> omega
  · rw [gboth_zero _ _ j (recOf_kn h p j hj hs) (tf_other s _ j hs), tf_other s _ j hs]

set_option maxRecDepth 100000 in
set_option maxHeartbeats 1000000 in
theorem premove_none (rb s mb : Nat) (c : Int) (E : Recs) (w : World) (h : PRep w rb s mb c E) (p : ByteArray) (hp : p.size ≤ 1000000000000) (hn : getE p E = none) :
    Calls Tryz.prog 64 #[.pointer (some ⟨rb, 0, none⟩), .string p] w fun e w' => e = .returned (.int .i64 4) ∧ Fr (fun k => k = rb ∨ k = mb) w w' ∧ PRep w' rb s mb c E := by
  have C := recordOf_any rb s mb c E w h p (by unfold maxLen; omega)
  have fin : Hid (∀ V b R eb eo, St w V rb s mb b c E R eb eo → Fr (fun k => k = rb ∨ k = mb) w V ∧ PRep V rb s mb c E) := fun V b R eb eo S => ⟨S.fr, ⟨S.rep, S.own, h.ris, h.bn, h.kn, h.len, h.c0⟩⟩
  have H := hide h
  have hth := (recOf_bn h p).2
  rw [hn] at hth C
  simp only [Option.isSome_none] at hth
  generalize recOf s c none = R1 at C hth
  simp only [recVal] at C
  have CH := hide C
  clear C h hn
  go_enter Tryz.func64, Tryz.ntmps64
  go_wp2_with (first
    | (go_at_call 104; refine CH.out.mono ?_; rintro e w1 ⟨rfl, hb1r⟩; have S1 := hide (St.start H.out hb1r R1); clear hb1r)
    | (go_at_call 113; refine S1.out.there.mono ?_; rintro e w3 ⟨rfl, S3r⟩; have S3 := hide S3r; clear S3r))
  go_ret
  exact ⟨rfl, fin.out _ _ _ _ _ S3.out⟩

set_option maxRecDepth 100000 in
set_option maxHeartbeats 1000000 in
theorem premove_full (rb s mb : Nat) (c : Int) (E : Recs) (w : World) (h : PRep w rb s mb c E) (p : ByteArray) (hp : p.size ≤ 1000000000000) (hn : (getE p E).isSome = true) (hc : 1000000000 ≤ c) :
    Calls Tryz.prog 64 #[.pointer (some ⟨rb, 0, none⟩), .string p] w fun e w' => e = .returned (.int .i64 5) ∧ Fr (fun k => k = rb ∨ k = mb) w w' ∧ PRep w' rb s mb c E := by
  have C := recordOf_any rb s mb c E w h p (by unfold maxLen; omega)
  have fin : Hid (∀ V b R eb eo, St w V rb s mb b c E R eb eo → Fr (fun k => k = rb ∨ k = mb) w V ∧ PRep V rb s mb c E) := fun V b R eb eo S => ⟨S.fr, ⟨S.rep, S.own, h.ris, h.bn, h.kn, h.len, h.c0⟩⟩
  have H := hide h
  have hth := (recOf_bn h p).2
  rw [hn] at hth
  generalize recOf s c (getE p E) = R1 at C hth
  simp only [recVal] at C
  have CH := hide C
  have hd : decide (1000000000 ≤ c) = true := by simp [hc]
  clear C h hn
  go_enter Tryz.func64, Tryz.ntmps64
  go_wp2_with (first
    | (go_at_call 104; refine CH.out.mono ?_; rintro e w1 ⟨rfl, hb1r⟩; have S1 := hide (St.start H.out hb1r R1); clear hb1r)
    | (go_at_call 113; refine S1.out.there.mono ?_; rintro e w3 ⟨rfl, S3r⟩; have S3 := hide S3r; clear S3r)
    | (go_at_call 105; refine S3.out.full.mono ?_; rintro e w2 ⟨rfl, S2r⟩; have S2 := hide S2r; clear S2r))
  go_ret
  exact ⟨rfl, fin.out _ _ _ _ _ S2.out⟩

set_option maxRecDepth 100000 in
set_option maxHeartbeats 2000000 in
theorem premove_ok (rb s mb : Nat) (c : Int) (E : Recs) (w : World) (h : PRep w rb s mb c E) (p : ByteArray) (hp : p.size ≤ 1000000000000) (hn : (getE p E).isSome = true) (hc : c < 1000000000) :
    Calls Tryz.prog 64 #[.pointer (some ⟨rb, 0, none⟩), .string p] w fun e w' => e = .returned (.int .i64 0) ∧ Fr (fun k => k = rb ∨ k = mb) w w' ∧ PRep w' rb s mb (c + 1) (delE p E) := by
  have C := recordOf_any rb s mb c E w h p (by unfold maxLen; omega)
  have H := hide h
  have hc0 := h.c0
  have hth := (recOf_bn h p).2
  have hgk := gone_kn h p
  rw [hn] at hth
  generalize recOf s c (getE p E) = R1 at C hth hgk
  simp only [recVal] at C
  have CH := hide C
  have hd : decide (1000000000 ≤ c) = false := by simp; omega
  have KO : Hid (∀ V b eb eo, St w V rb s mb b (c + 1) E ⟨⟨#[]⟩, 0, 0, fun _ => 0, gboth R1.kn (tf s (c + 1))⟩ eb eo → Calls Tryz.prog 112 #[.pointer (some ⟨rb, 0, none⟩), .string p, .agg #[.string ⟨#[]⟩, .int .i64 0, .int .i64 0, .int .i64 0, .int .i64 0, .int .i64 0, .int .i64 0, .int .i64 0, .int .i64 0, .int .i64 (gboth R1.kn (tf s (c + 1)) 0), .int .i64 (gboth R1.kn (tf s (c + 1)) 1), .int .i64 (gboth R1.kn (tf s (c + 1)) 2), .int .i64 (gboth R1.kn (tf s (c + 1)) 3), .int .i64 (gboth R1.kn (tf s (c + 1)) 4), .int .i64 (gboth R1.kn (tf s (c + 1)) 5)]] V fun e w' => e = .returned (.tuple #[]) ∧ PRep w' rb s mb (c + 1) (delE p E) ∧ Fr (fun k => k = rb ∨ k = mb) w w') :=
    fun V b eb eo S => S.keepOut H.out p hp rfl hgk (by omega)
  clear C h hn hgk
  go_enter Tryz.func64, Tryz.ntmps64
  go_wp2_with (first
    | (go_at_call 104; refine CH.out.mono ?_; rintro e w1 ⟨rfl, hb1r⟩; have S1 := hide (St.start H.out hb1r R1); clear hb1r)
    | (go_at_call 113; refine S1.out.there.mono ?_; rintro e w3 ⟨rfl, S3r⟩; have S3 := hide S3r; clear S3r)
    | (go_at_call 105; refine S3.out.full.mono ?_; rintro e w2 ⟨rfl, S2r⟩; have S2 := hide S2r; clear S2r)
    | (go_at_call 107; refine (S2.out.next hc0 hc).mono ?_; rintro e w5 ⟨rfl, S5r⟩; have S5 := hide S5r; have SE := hide (S5r.alloc_ev (.cells #[.int .i64 s, .int .i64 (c + 1)] 191)); clear S5r)
    | (go_at_call 114; refine SE.out.remove.mono ?_; rintro e w7 ⟨rfl, S7r⟩; have S7 := hide S7r; obtain ⟨g0, g1⟩ := S7r.evCells; clear S7r)
    | (go_at_call 111; refine (S7.out.alone (c + 1)).mono ?_; rintro e w8 ⟨rfl, S8r⟩; have S8 := hide S8r; clear S8r)
    | (go_at_call 110; refine (S8.out.hear (tf s (c + 1)) _).mono ?_; rintro e w9 ⟨rfl, S9r⟩; have S9 := hide S9r; obtain ⟨k0, k1, k2, k3, k4, k5, k6, k7, k8, k9, k10, k11, k12, k13, k14⟩ := S9r.rc.cells; dsimp only at k0 k1 k2 k3 k4 k5 k6 k7 k8 k9 k10 k11 k12 k13 k14; clear S9r)
    | (go_at_call 112; refine (KO.out _ _ _ _ S9.out).mono ?_; rintro e w10 ⟨rfl, hPr, hFr⟩; have HP := hide hPr; have HF := hide hFr; clear hPr hFr))
  go_ret
  exact ⟨rfl, HF.out, HP.out⟩

end Go.Proofs.YtaelaldmibgibaaGreatDoor

namespace Go.Proofs.YtaelaldmibgibaaGreatDoor
open Go.RowKit Go.Maps

structure PN where
  pb : Nat
  rbs : List Nat
  mbs : List Nat
def PN.mem (P : PN) (nb k : Nat) : Prop := k = nb ∨ k = P.pb ∨ k ∈ P.rbs ∨ k ∈ P.mbs

structure PNet (w : World) (nb : Nat) (P : PN) (A : Abs) : Prop where
  net : NetAt w nb A.n P.pb P.rbs
  ml : P.mbs.length = A.n
  n1 : 1 ≤ A.n
  rep : ∀ r rb mb, P.rbs[r]? = some rb → P.mbs[r]? = some mb → ∃ E, PRep w rb r mb (A.c r) E ∧ A.F r = filesE E
  nd : (nb :: P.pb :: (P.rbs ++ P.mbs)).Nodup
  lt : ∀ k, P.mem nb k → k < w.heap.size

section
variable {w w' : World} {nb : Nat} {P : PN} {A : Abs}

theorem NetAt.keep {n pb : Nat} {rbs : List Nat} (h : NetAt w nb n pb rbs) (h1 : w'.heap[nb]? = w.heap[nb]?) (h2 : w'.heap[pb]? = w.heap[pb]?) : NetAt w' nb n pb rbs :=
  ⟨by rw [h1]; exact h.blk, h.len, fun r b hr => by rw [World.cell?_of_block (w := w) h2]; exact h.row r b hr, h.n6⟩
theorem PNet.keep (h : PNet w nb P A) (hs : w.heap.size ≤ w'.heap.size) (hk : ∀ k, P.mem nb k → w'.heap[k]? = w.heap[k]?) : PNet w' nb P A where
  net := h.net.keep (hk _ (.inl rfl)) (hk _ (.inr (.inl rfl)))
  ml := h.ml
  n1 := h.n1
  rep := fun r rb mb h1 h2 => by
    obtain ⟨E, hE, hF⟩ := h.rep r rb mb h1 h2
    exact ⟨E, hE.keep (hk _ (.inr (.inr (.inl (List.mem_of_getElem? h1))))) (hk _ (.inr (.inr (.inr (List.mem_of_getElem? h2))))), hF⟩
  nd := h.nd
  lt := fun k hk' => Nat.lt_of_lt_of_le (h.lt k hk') hs
theorem PNet.below (h : PNet w nb P A) (hb : Below w.heap.size w w') : PNet w' nb P A := h.keep hb.size (fun k hk => hb.block k (h.lt k hk))
theorem PNet.fr {F : Nat → Prop} (h : PNet w nb P A) (hf : Fr F w w') (hd : ∀ k, P.mem nb k → ¬ F k) : PNet w' nb P A := h.keep hf.size (fun k hk => hf.block k (h.lt k hk) (hd k hk))

/-- a replica that is there -/
theorem PNet.at (h : PNet w nb P A) (r : Nat) (hr : r < A.n) : ∃ rb mb E, P.rbs[r]? = some rb ∧ P.mbs[r]? = some mb ∧ PRep w rb r mb (A.c r) E ∧ A.F r = filesE E := by
  have hl := h.net.len
  have hm := h.ml
  obtain ⟨E, hE⟩ := h.rep r _ _ (List.getElem?_eq_getElem (by omega)) (List.getElem?_eq_getElem (by omega))
  exact ⟨_, _, E, List.getElem?_eq_getElem (by omega), List.getElem?_eq_getElem (by omega), hE⟩

theorem getElem_ne {l : List Nat} (h : l.Nodup) {i j : Nat} {a b : Nat} (hi : l[i]? = some a) (hj : l[j]? = some b) (hne : i ≠ j) : a ≠ b := by
  obtain ⟨hi', rfl⟩ := List.getElem?_eq_some_iff.1 hi
  obtain ⟨hj', rfl⟩ := List.getElem?_eq_some_iff.1 hj
  intro e
  exact hne ((List.getElem_inj h).1 e)

/-- one replica has turned -/
theorem PNet.turn (h : PNet w nb P A) (r : Nat) (hr : r < A.n) {rb mb : Nat} (h1 : P.rbs[r]? = some rb) (h2 : P.mbs[r]? = some mb) (hf : Fr (fun k => k = rb ∨ k = mb) w w') {c : Int} {E : Recs} (hE : PRep w' rb r mb c E) : PNet w' nb P (A.set r (filesE E) c) := by
  have hnd := h.nd
  rw [List.nodup_cons, List.nodup_cons] at hnd
  obtain ⟨n1, n2, n3⟩ := hnd
  have hrb := List.mem_of_getElem? h1
  have hmb := List.mem_of_getElem? h2
  obtain ⟨d1, d2, d3⟩ := List.nodup_append.1 n3
  have hk : ∀ k, P.mem nb k → k ≠ rb → k ≠ mb → w'.heap[k]? = w.heap[k]? := fun k hm ha hb => hf.block k (h.lt k hm) (fun e => e.elim ha hb)
  simp only [List.mem_cons, List.mem_append, not_or] at n1 n2
  refine ⟨h.net.keep (hk _ (.inl rfl) ?_ ?_) (hk _ (.inr (.inl rfl)) ?_ ?_), h.ml, h.n1, ?_, h.nd, fun k hk' => Nat.lt_of_lt_of_le (h.lt k hk') hf.size⟩
  · rintro rfl; exact n1.2.1 hrb
  · rintro rfl; exact n1.2.2 hmb
  · rintro e; rw [e] at n2; exact n2.1 hrb
  · rintro e; rw [e] at n2; exact n2.2 hmb
  · intro q qb qm hq1 hq2
    by_cases hqr : q = r
    · subst hqr
      rw [h1] at hq1
      rw [h2] at hq2
      cases hq1
      cases hq2
      refine ⟨E, ?_, ?_⟩
      · simp only [Abs.set, if_true]; exact hE
      · simp only [Abs.set, if_true]
    · obtain ⟨E', hE', hF'⟩ := h.rep q qb qm hq1 hq2
      refine ⟨E', ?_, ?_⟩
      · simp only [Abs.set, if_neg hqr]
        have hqb := List.mem_of_getElem? hq1
        have hqm := List.mem_of_getElem? hq2
        refine hE'.keep (hk _ (.inr (.inr (.inl hqb))) (getElem_ne d1 hq1 h1 hqr) (d3 _ hqb _ hmb)) (hk _ (.inr (.inr (.inr hqm))) (fun e => d3 _ hrb _ hqm e.symm) (getElem_ne d2 hq2 h2 hqr))
      · simp only [Abs.set, if_neg hqr]; exact hF'
theorem PNet.inMem (r : Nat) {rb mb : Nat} (h1 : P.rbs[r]? = some rb) (h2 : P.mbs[r]? = some mb) (k : Nat) (hk : k = rb ∨ k = mb) : P.mem nb k := by
  rcases hk with rfl | rfl
  · exact .inr (.inr (.inl (List.mem_of_getElem? h1)))
  · exact .inr (.inr (.inr (List.mem_of_getElem? h2)))
theorem set_self (A : Abs) (r : Nat) : A.set r (A.F r) (A.c r) = A := by
  unfold Abs.set
  have e1 : (fun q => if q = r then A.F r else A.F q) = A.F := by
    funext q
    split
    · rename_i e; rw [e]
    · rfl
  have e2 : (fun q => if q = r then A.c r else A.c q) = A.c := by
    funext q
    split
    · rename_i e; rw [e]
    · rfl
  rw [e1, e2]
theorem out_true {A : Abs} {r : Int} (h : A.out r = true) : ¬ (0 ≤ r ∧ r < A.n) := by
  unfold Abs.out at h
  simp at h
  omega

set_option maxHeartbeats 600000 in
theorem netWrite_any (nb : Nat) (P : PN) (A : Abs) (r : Int) (p t : ByteArray) (w : World) (h : PNet w nb P A) (hp : p.size ≤ 1000000000000) (ht : t.size ≤ 1000000000000) :
    Calls Tryz.prog 29 #[.pointer (some ⟨nb, 0, none⟩), .int .i64 r, .string p, .string t] w fun e w' => e = .returned (.int .i64 (A.writeE r p t)) ∧ PNet w' nb P (A.write r p t) ∧ Fr (P.mem nb) w w' := by
  have hpm : p.size ≤ maxLen := by unfold maxLen; omega
  have hpc : P.rbs.length = A.n := h.net.len
  cases ho : A.out r with
  | true =>
    have e1 : A.writeE r p t = 1 := by unfold Abs.writeE; rw [if_pos ho]
    have e2 : A.write r p t = A := by unfold Abs.write; rw [e1]; rfl
    rw [e1, e2]
    have H := hide h
    have C := hide (placeOf_num nb A.n P.pb P.rbs r p w h.net (out_true ho))
    clear h e1 e2 ho
    go_enter Tryz.func29, Tryz.ntmps29
    go_wp2_with (go_at_call 61; refine C.out.mono ?_; rintro e w ⟨rfl, rfl⟩)
    go_ret
    exact ⟨rfl, H.out, Fr.refl _ _⟩
  | false =>
    obtain ⟨q, rfl, hq⟩ := out_nat ho
    cases hpo : pathOk p with
    | false =>
      have e1 : A.writeE q p t = 2 := by unfold Abs.writeE; rw [if_neg (by rw [ho]; simp), if_pos hpo]
      have e2 : A.write q p t = A := by unfold Abs.write; rw [e1]; rfl
      rw [e1, e2]
      have H := hide h
      have C := hide (placeOf_path nb A.n P.pb P.rbs q p w h.net (by omega) hpo hpm)
      clear h e1 e2 ho hpo
      go_enter Tryz.func29, Tryz.ntmps29
      go_wp2_with (go_at_call 61; refine C.out.mono ?_; rintro e w ⟨rfl, rfl⟩)
      go_ret
      exact ⟨rfl, H.out, Fr.refl _ _⟩
    | true =>
      obtain ⟨rb, mb, E, h1, h2, hE, hF⟩ := h.at q hq
      have H := hide h
      have C := hide (placeOf_ok nb A.n P.pb P.rbs q rb p w h.net h1 hpo hpm)
      have hf := PNet.inMem (nb := nb) q h1 h2
      have hget := files_get p E
      rw [← hF] at hget
      by_cases h60 : 60 < t.size
      · have e1 : A.writeE q p t = 3 := by unfold Abs.writeE; rw [if_neg (by rw [ho]; simp), if_neg (by rw [hpo]; simp), if_pos h60]
        have e2 : A.write q p t = A := by unfold Abs.write; rw [e1]; rfl
        rw [e1, e2]
        have d1 : decide ((60 : Int) < (t.size : Int)) = true := by simp; omega
        clear h e1 e2 ho hpo hE hF
        go_enter Tryz.func29, Tryz.ntmps29
        go_wp2_with (go_at_call 61; refine C.out.mono ?_; rintro e w ⟨rfl, rfl⟩)
        go_ret
        exact ⟨rfl, H.out, Fr.refl _ _⟩
      · have W : ∃ E' c' z, A.writeE q p t = z ∧ A.write q p t = A.set q (filesE E') c' ∧ Hid (Calls Tryz.prog 62 #[.pointer (some ⟨rb, 0, none⟩), .string p, .string t] w fun e w' => e = .returned (.int .i64 z) ∧ Fr (fun k => k = rb ∨ k = mb) w w' ∧ PRep w' rb q mb c' E') := by
          by_cases hfull : 1000000000 ≤ A.c q ∨ (getE p E = none ∧ 20 ≤ E.length)
          · have e1 : A.writeE q p t = 5 := by
              unfold Abs.writeE
              rw [if_neg (by rw [ho]; simp), if_neg (by rw [hpo]; simp), if_neg h60, Int.toNat_natCast, if_pos]
              rcases hfull with hh | ⟨hh, hl⟩
              · exact .inl hh
              · exact .inr ⟨by rw [hget, hh]; rfl, by rw [hF, files_length]; exact hl⟩
            refine ⟨E, A.c q, 5, e1, ?_, pwrite_full rb q mb (A.c q) E w hE p t hp hfull⟩
            rw [← hF, set_self]
            unfold Abs.write; rw [e1]; rfl
          · have e1 : A.writeE q p t = 0 := by
              unfold Abs.writeE
              rw [if_neg (by rw [ho]; simp), if_neg (by rw [hpo]; simp), if_neg h60, Int.toNat_natCast, if_neg]
              rintro (hh | ⟨hh, hl⟩)
              · exact hfull (.inl hh)
              · refine hfull (.inr ⟨?_, by rw [hF, files_length] at hl; exact hl⟩)
                rw [hget] at hh
                simpa using hh
            refine ⟨_, _, 0, e1, ?_, pwrite_ok rb q mb (A.c q) E w hE p t hp ht (by have : ¬ 1000000000 ≤ A.c q := fun hh => hfull (.inl hh); omega) ?_⟩
            · unfold Abs.write
              rw [if_pos e1, Int.toNat_natCast, files_put p t _ E rfl, hF]
            · by_cases hn : getE p E = none
              · exact .inr (by have : ¬ 20 ≤ E.length := fun hl => hfull (.inr ⟨hn, hl⟩); omega)
              · exact .inl hn
        obtain ⟨E', c', z, e1, e2, WC⟩ := W
        rw [e1, e2]
        have d1 : decide ((60 : Int) < (t.size : Int)) = false := by simp; omega
        have T := hide (fun w' (hf' : Fr (fun k => k = rb ∨ k = mb) w w') (hP : PRep w' rb q mb c' E') => (⟨h.turn q hq h1 h2 hf' hP, hf'.mono (fun k _ e => hf k e)⟩ : PNet w' nb P (A.set q (filesE E') c') ∧ Fr (P.mem nb) w w'))
        clear h e1 e2 ho hpo hE hF hget h60
        go_enter Tryz.func29, Tryz.ntmps29
        go_wp2_with (first
          | (go_at_call 61; refine C.out.mono ?_; rintro e w ⟨rfl, rfl⟩)
          | (go_at_call 62; refine WC.out.mono ?_; rintro e w5 ⟨rfl, hf5, hP5⟩; have T5 := hide (T.out w5 hf5 hP5); clear hf5 hP5))
        go_ret
        exact ⟨rfl, T5.out.1, T5.out.2⟩
end

end Go.Proofs.YtaelaldmibgibaaGreatDoor

namespace Go.Proofs.YtaelaldmibgibaaGreatDoor
open Go.RowKit Go.Maps

section
variable {w w' : World} {nb : Nat} {P : PN} {A : Abs}

set_option maxHeartbeats 600000 in
theorem netRemove_any (nb : Nat) (P : PN) (A : Abs) (r : Int) (p : ByteArray) (w : World) (h : PNet w nb P A) (hp : p.size ≤ 1000000000000) :
    Calls Tryz.prog 33 #[.pointer (some ⟨nb, 0, none⟩), .int .i64 r, .string p] w fun e w' => e = .returned (.int .i64 (A.removeE r p)) ∧ PNet w' nb P (A.remove r p) ∧ Fr (P.mem nb) w w' := by
  have hpm : p.size ≤ maxLen := by unfold maxLen; omega
  have hpc : P.rbs.length = A.n := h.net.len
  cases ho : A.out r with
  | true =>
    have e1 : A.removeE r p = 1 := by unfold Abs.removeE; rw [if_pos ho]
    have e2 : A.remove r p = A := by unfold Abs.remove; rw [e1]; rfl
    rw [e1, e2]
    have H := hide h
    have C := hide (placeOf_num nb A.n P.pb P.rbs r p w h.net (out_true ho))
    clear h e1 e2 ho
    go_enter Tryz.func33, Tryz.ntmps33
    go_wp2_with (go_at_call 61; refine C.out.mono ?_; rintro e w ⟨rfl, rfl⟩)
    go_ret
    exact ⟨rfl, H.out, Fr.refl _ _⟩
  | false =>
    obtain ⟨q, rfl, hq⟩ := out_nat ho
    cases hpo : pathOk p with
    | false =>
      have e1 : A.removeE q p = 2 := by unfold Abs.removeE; rw [if_neg (by rw [ho]; simp), if_pos hpo]
      have e2 : A.remove q p = A := by unfold Abs.remove; rw [e1]; rfl
      rw [e1, e2]
      have H := hide h
      have C := hide (placeOf_path nb A.n P.pb P.rbs q p w h.net (by omega) hpo hpm)
      clear h e1 e2 ho hpo
      go_enter Tryz.func33, Tryz.ntmps33
      go_wp2_with (go_at_call 61; refine C.out.mono ?_; rintro e w ⟨rfl, rfl⟩)
      go_ret
      exact ⟨rfl, H.out, Fr.refl _ _⟩
    | true =>
      obtain ⟨rb, mb, E, h1, h2, hE, hF⟩ := h.at q hq
      have H := hide h
      have C := hide (placeOf_ok nb A.n P.pb P.rbs q rb p w h.net h1 hpo hpm)
      have hf := PNet.inMem (nb := nb) q h1 h2
      have hget := files_get p E
      rw [← hF] at hget
      have W : ∃ E' c' z, A.removeE q p = z ∧ A.remove q p = A.set q (filesE E') c' ∧ Hid (Calls Tryz.prog 64 #[.pointer (some ⟨rb, 0, none⟩), .string p] w fun e w' => e = .returned (.int .i64 z) ∧ Fr (fun k => k = rb ∨ k = mb) w w' ∧ PRep w' rb q mb c' E') := by
        cases hg : getE p E with
        | none =>
          have e1 : A.removeE q p = 4 := by
            unfold Abs.removeE
            rw [if_neg (by rw [ho]; simp), if_neg (by rw [hpo]; simp), Int.toNat_natCast, if_pos (by rw [hget, hg]; rfl)]
          refine ⟨E, A.c q, 4, e1, ?_, premove_none rb q mb (A.c q) E w hE p hp hg⟩
          rw [← hF, set_self]
          unfold Abs.remove; rw [e1]; rfl
        | some R0 =>
          have hs : (getE p E).isSome = true := by rw [hg]; rfl
          by_cases hfull : 1000000000 ≤ A.c q
          · have e1 : A.removeE q p = 5 := by
              unfold Abs.removeE
              rw [if_neg (by rw [ho]; simp), if_neg (by rw [hpo]; simp), Int.toNat_natCast, if_neg (by rw [hget, hg]; simp), if_pos hfull]
            refine ⟨E, A.c q, 5, e1, ?_, premove_full rb q mb (A.c q) E w hE p hp hs hfull⟩
            rw [← hF, set_self]
            unfold Abs.remove; rw [e1]; rfl
          · have e1 : A.removeE q p = 0 := by
              unfold Abs.removeE
              rw [if_neg (by rw [ho]; simp), if_neg (by rw [hpo]; simp), Int.toNat_natCast, if_neg (by rw [hget, hg]; simp), if_neg hfull]
            refine ⟨_, _, 0, e1, ?_, premove_ok rb q mb (A.c q) E w hE p hp hs (by omega)⟩
            unfold Abs.remove
            rw [if_pos e1, Int.toNat_natCast, files_del p E, hF]
      obtain ⟨E', c', z, e1, e2, WC⟩ := W
      rw [e1, e2]
      have T := hide (fun w' (hf' : Fr (fun k => k = rb ∨ k = mb) w w') (hP : PRep w' rb q mb c' E') => (⟨h.turn q hq h1 h2 hf' hP, hf'.mono (fun k _ e => hf k e)⟩ : PNet w' nb P (A.set q (filesE E') c') ∧ Fr (P.mem nb) w w'))
      clear h e1 e2 ho hpo hE hF hget
      go_enter Tryz.func33, Tryz.ntmps33
      go_wp2_with (first
        | (go_at_call 61; refine C.out.mono ?_; rintro e w ⟨rfl, rfl⟩)
        | (go_at_call 64; refine WC.out.mono ?_; rintro e w5 ⟨rfl, hf5, hP5⟩; have T5 := hide (T.out w5 hf5 hP5); clear hf5 hP5))
      go_ret
      exact ⟨rfl, T5.out.1, T5.out.2⟩

set_option maxHeartbeats 600000 in
theorem netRead_any (nb : Nat) (P : PN) (A : Abs) (r : Int) (p : ByteArray) (w : World) (h : PNet w nb P A) (hp : p.size ≤ 1000000000000) :
    Calls Tryz.prog 30 #[.pointer (some ⟨nb, 0, none⟩), .int .i64 r, .string p] w fun e w' => e = .returned (.tuple #[.string (A.readT r p), .int .i64 (A.readE r p)]) ∧ Below w.heap.size w w' := by
  have hpm : p.size ≤ maxLen := by unfold maxLen; omega
  cases ho : A.out r with
  | true =>
    have e1 : A.readE r p = 1 := by unfold Abs.readE; rw [if_pos ho]
    have e2 : A.readT r p = ⟨#[]⟩ := by unfold Abs.readT; rw [e1]; rfl
    rw [e1, e2]
    have C := hide (placeOf_num nb A.n P.pb P.rbs r p w h.net (out_true ho))
    clear h e1 e2 ho
    go_enter Tryz.func30, Tryz.ntmps30
    go_wp2_with (go_at_call 61; refine C.out.mono ?_; rintro e w ⟨rfl, rfl⟩)
    go_ret2
    exact ⟨rfl, Below.refl _ _⟩
  | false =>
    obtain ⟨q, rfl, hq⟩ := out_nat ho
    cases hpo : pathOk p with
    | false =>
      have e1 : A.readE q p = 2 := by unfold Abs.readE; rw [if_neg (by rw [ho]; simp), if_pos hpo]
      have e2 : A.readT q p = ⟨#[]⟩ := by unfold Abs.readT; rw [e1]; rfl
      rw [e1, e2]
      have C := hide (placeOf_path nb A.n P.pb P.rbs q p w h.net (by omega) hpo hpm)
      clear h e1 e2 ho hpo
      go_enter Tryz.func30, Tryz.ntmps30
      go_wp2_with (go_at_call 61; refine C.out.mono ?_; rintro e w ⟨rfl, rfl⟩)
      go_ret2
      exact ⟨rfl, Below.refl _ _⟩
    | true =>
      obtain ⟨rb, mb, E, h1, h2, hE, hF⟩ := h.at q hq
      have C := hide (placeOf_ok nb A.n P.pb P.rbs q rb p w h.net h1 hpo hpm)
      have hget := files_get p E
      rw [← hF] at hget
      have W : ∃ t z, A.readE q p = z ∧ A.readT q p = t ∧ Hid (Calls Tryz.prog 63 #[.pointer (some ⟨rb, 0, none⟩), .string p] w fun e w' => e = .returned (.tuple #[.string t, .int .i64 z]) ∧ Below w.heap.size w w') := by
        cases hg : getE p E with
        | none =>
          have e1 : A.readE q p = 4 := by
            unfold Abs.readE
            rw [if_neg (by rw [ho]; simp), if_neg (by rw [hpo]; simp), Int.toNat_natCast, if_pos (by rw [hget, hg]; rfl)]
          exact ⟨⟨#[]⟩, 4, e1, by unfold Abs.readT; rw [e1]; rfl, pread_none rb q mb (A.c q) E w hE p hpm hg⟩
        | some R0 =>
          have e1 : A.readE q p = 0 := by
            unfold Abs.readE
            rw [if_neg (by rw [ho]; simp), if_neg (by rw [hpo]; simp), Int.toNat_natCast, if_neg (by rw [hget, hg]; simp)]
          refine ⟨R0.text, 0, e1, ?_, pread_some rb q mb (A.c q) E w hE p hpm R0 hg⟩
          unfold Abs.readT
          rw [if_pos e1, Int.toNat_natCast, hget, hg]
          rfl
      obtain ⟨t, z, e1, e2, WC⟩ := W
      rw [e1, e2]
      clear h e1 e2 ho hpo hE hF hget
      go_enter Tryz.func30, Tryz.ntmps30
      go_wp2_with (first
        | (go_at_call 61; refine C.out.mono ?_; rintro e w ⟨rfl, rfl⟩)
        | (go_at_call 63; refine WC.out.mono ?_; rintro e w5 ⟨rfl, hb5r⟩; have hb5 := hide hb5r; clear hb5r))
      go_ret2
      exact ⟨rfl, hb5.out⟩

/-- down to a replica's block -/
theorem PNet.cells (h : PNet w nb P A) (q rb : Nat) (h1 : P.rbs[q]? = some rb) : ∃ cap, w.cell? ⟨nb, 0, none⟩ = some (.slice (some ⟨P.pb, 0, none⟩) A.n cap) ∧ w.cell? ⟨P.pb, q, none⟩ = some (.pointer (some ⟨rb, 0, none⟩)) := by
  obtain ⟨cap, hb⟩ := h.net.blk
  exact ⟨cap, by simp [World.cell?, hb], h.net.row q rb h1⟩

set_option maxHeartbeats 600000 in
theorem netList_any (nb : Nat) (P : PN) (A : Abs) (r : Int) (w : World) (h : PNet w nb P A) :
    Calls Tryz.prog 95 #[.pointer (some ⟨nb, 0, none⟩), .int .i64 r] w fun e w' => ∃ v, e = .returned (.tuple #[v, .int .i64 (A.listE r)]) ∧ w'.ownsRow w.heap.size 9 1 v (A.listL r).length (svs (A.listL r)) ∧ Below w.heap.size w w' := by
  have HA := hide (has_any nb A.n P.pb P.rbs r w h.net)
  cases ho : A.out r with
  | true =>
    have e1 : A.listE r = 1 := by unfold Abs.listE; rw [if_pos ho]
    have e2 : A.listL r = [] := by unfold Abs.listL; rw [if_pos ho]
    rw [e1, e2]
    rw [decide_eq_false (out_true ho)] at HA
    clear h e1 e2 ho
    go_enter Tryz.func95, Tryz.ntmps95
    go_wp2_with (go_at_call 36; refine HA.out.mono ?_; rintro e w ⟨rfl, rfl⟩)
    go_ret2
    exact ⟨_, rfl, World.ownsRow_nil _ _ _ _, Below.refl _ _⟩
  | false =>
    have e1 : A.listE r = 0 := by unfold Abs.listE; rw [if_neg (by rw [ho]; simp)]
    have e2 : A.listL r = (A.F r.toNat).map (·.1) := by unfold Abs.listL; rw [if_neg (by rw [ho]; simp)]
    obtain ⟨q, rfl, hq⟩ := out_nat ho
    obtain ⟨rb, mb, E, h1, h2, hE, hF⟩ := h.at q hq
    rw [Int.toNat_natCast, hF] at e2
    have e3 : A.listL q = E.map (·.1) := by rw [e2]; unfold filesE; rw [List.map_map]; rfl
    rw [e1, e3, List.length_map]
    rw [decide_eq_true (by omega)] at HA
    have L := hide (plist_any rb q _ mb w hE.rep E hE.ris (by have := hE.len; omega) hE.bn hE.own)
    obtain ⟨cap, c0, cr⟩ := h.cells q rb h1
    have hn6 := h.net.n6
    clear h e1 e2 e3 ho hE hF h1 h2
    go_enter Tryz.func95, Tryz.ntmps95
    go_wp2_with (first
      | (go_at_call 36; refine HA.out.mono ?_; rintro e w ⟨rfl, rfl⟩)
      | (go_at_call 165; refine L.out.mono ?_; rintro e w5 ⟨v, rfl, hor, hbr⟩; have HO := hide hor; have HB := hide hbr; clear hor hbr))
    go_ret2
    exact ⟨_, rfl, HO.out, HB.out⟩
end

attribute [local go_sem ↓] stState
attribute [local go_sem] run_stState

set_option maxHeartbeats 600000 in
theorem netLook_any (nb : Nat) (P : PN) (A : Abs) (r : Int) (w : World) (h : PNet w nb P A) :
    Calls Tryz.prog 86 #[.pointer (some ⟨nb, 0, none⟩), .int .i64 r] w fun e w' => e = .returned (.tuple #[A.lookV r, .int .i64 (A.lookE r)]) ∧ Below w.heap.size w w' := by
  have MB : Hid (Mine w w.heap.size 3 (w.alloc (.cells #[.int .i64 0, .int .i64 0, .int .i64 0] 166))) := Mine.made' w #[.int .i64 0, .int .i64 0, .int .i64 0] 166 (n := 3) rfl
  have mth := MB.out.there
  have HA := hide (has_any nb A.n P.pb P.rbs r _ (h.below MB.out.below).net)
  have hnl := h.lt nb (.inl rfl)
  cases ho : A.out r with
  | true =>
    have e1 : A.lookE r = 1 := by unfold Abs.lookE; rw [if_pos ho]
    have e2 : A.lookV r = .agg #[.int .i64 0, .int .i64 0, .int .i64 0] := by unfold Abs.lookV; rw [if_pos ho]
    rw [e1, e2]
    rw [decide_eq_false (out_true ho)] at HA
    clear h e1 e2 ho
    go_enter Tryz.func86, Tryz.ntmps86
    go_wp2_with (go_at_call 36; refine HA.out.mono ?_; rintro e w7 ⟨rfl, rfl⟩)
    exact bodyPost_ret (ret_cell_tmp Tryz.results86 (a := ⟨w.heap.size, 0, none⟩) rfl (load_stored (cs := [_, _, _]) MB.out.there Tryz.underlying166 rfl size_State)) rfl ⟨rfl, (Mine.setCells (p := True) ⟨MB.out, trivial⟩ 0 _).below⟩
  | false =>
    have e1 : A.lookE r = 0 := by unfold Abs.lookE; rw [if_neg (by rw [ho]; simp)]
    have e2 : A.lookV r = .agg #[.int .i64 (A.c r.toNat), .int .i64 (A.F r.toNat).length, .int .i64 (A.F r.toNat).length] := by unfold Abs.lookV; rw [if_neg (by rw [ho]; simp)]
    obtain ⟨q, rfl, hq⟩ := out_nat ho
    obtain ⟨rb, mb, E, h1, h2, hE, hF⟩ := h.at q hq
    rw [Int.toNat_natCast, hF, files_length] at e2
    rw [e1, e2]
    rw [decide_eq_true (by omega)] at HA
    have L := hide (plook_any rb q mb (A.c q) E _ (hE.below MB.out.below))
    obtain ⟨cap, c0, cr⟩ := (h.below MB.out.below).cells q rb h1
    have hn6 := h.net.n6
    have fin : Hid (∀ V, Below (w.alloc (.cells #[.int .i64 0, .int .i64 0, .int .i64 0] 166)).heap.size (w.alloc (.cells #[.int .i64 0, .int .i64 0, .int .i64 0] 166)) V → Mine w w.heap.size 3 V) := fun V hb => Mine.call (p := True) ⟨MB.out, trivial⟩ hb
    clear h e1 e2 ho hE hF h1 h2 mth
    go_enter Tryz.func86, Tryz.ntmps86
    go_wp2_with (first
      | (go_at_call 36; refine HA.out.mono ?_; rintro e w7 ⟨rfl, rfl⟩)
      | (go_at_call 148; refine L.out.mono ?_; rintro e w5 ⟨rfl, hbr⟩; have M5 := hide (fin.out w5 hbr); have mth := (fin.out w5 hbr).there; clear hbr))
    exact bodyPost_ret (ret_cell_tmp Tryz.results86 (a := ⟨w.heap.size, 0, none⟩) rfl (load_stored (cs := [_, _, _]) M5.out.there Tryz.underlying166 rfl size_State)) rfl ⟨rfl, (Mine.setCells (p := True) ⟨M5.out, trivial⟩ 0 _).below⟩

end Go.Proofs.YtaelaldmibgibaaGreatDoor

namespace Go.Proofs.YtaelaldmibgibaaGreatDoor
open Go.RowKit Go.Maps

theorem tf_nil (s : Nat) : tf s 0 = fun _ => 0 := by
  funext j
  by_cases hj : j = s
  · subst hj
    unfold tf one
    by_cases h : j < 6
    · match j, h with
      | 0, _ | 1, _ | 2, _ | 3, _ | 4, _ | 5, _ => rfl
    · rw [List.set_eq_of_length_le (by simp; omega), List.getD_eq_getElem?_getD, List.getElem?_replicate, if_neg h]; rfl
  · exact tf_other s 0 j hj

set_option maxHeartbeats 400000 in
theorem pnew_any (s : Nat) (hs : s < 6) (w : World) :
    Calls Tryz.prog 48 #[.int .i64 s] w fun e w' => e = .returned (.pointer (some ⟨w.heap.size + 1, 0, none⟩)) ∧ PRep w' (w.heap.size + 1) s w.heap.size 0 [] ∧ Below w.heap.size w w' ∧ w'.heap.size = w.heap.size + 2 := by
  have hmm := @run_makeMap Tryz.prog
  go_enter Tryz.func48, Tryz.ntmps48
  go_wp2
  go_ret
  have e1 : (w.alloc (.map #[] 0)).heap.size = w.heap.size + 1 := by simp
  refine ⟨rfl, ⟨⟨?_, hs⟩, ?_, List.Pairwise.nil, fun x hx => by simp at hx, fun x hx => by simp at hx, by simp, Int.le_refl 0⟩, ((Below.refl _ _).alloc (Nat.le_refl _) _).alloc (by simp) _, by simp⟩
  · rw [← e1, heap_alloc_new]
    simp only [tf_nil]
  · exact (World.ownsMap_made w Tryz.prog 9 recElem).alloc _

theorem info_ptr : (Tryz.prog.info? 92).map (fun i => (i.zero, i.size, i.bytes)) = some (some (.pointer none), 1, 8) := by kernel_rfl
theorem step_app_ptr {ops : Array Oper} {o : Oper} {a : Act} {K : Act → World → Prop} {Q : Exit → Act → World → Prop} {E : Prop} (w : World) (hgd : o.guard = none) (s x : Operand) (ho : o.op = .call { callee := .builtin .append, args := #[s, x], argTypes := #[95, 95] }) (base : Nat) (v : Value) (n : Nat) (xs : List Value) (hs : a.eval s = v) (hown : w.ownsRow base 92 1 v n xs)
    (k : Nat) (y : Addr) (hx : a.eval x = .slice (some ⟨k, 0, none⟩) 1 1) (hc : w.cell? ⟨k, 0, none⟩ = some (.pointer (some y))) (hn : n ≤ 1000000000000) (hb : base ≤ w.heap.size)
    (h : ∀ g cap w1, w1.ownsRow base 92 1 (.slice (some ⟨g, 0, none⟩) (n + 1) cap) (n + 1) (xs ++ [.pointer (some y)]) → w.grownBy w1 v.ownBlock → (v.ownBlock = some g ∨ g = w.heap.size) → g < w1.heap.size → K (a.put o.dst (.slice (some ⟨g, 0, none⟩) (n + 1) cap)) w1) :
    if Region.wanted o (yielded ops a.tmps) = true then Oper.wp Tryz.prog o a w K Q else E := by
  obtain ⟨i0, hi, hz0, hz1, hz2⟩ := info_parts info_ptr
  refine step_append_lies w hgd s x 95 ho base 92 i0 _ 1 8 Tryz.underlying95 hi hz0 hz1 hz2 rfl (by decide) v n xs hs hown ⟨k, 0, none⟩ 1 1 [.pointer (some y)] hx rfl ?_ ?_ (by omega) (by unfold maxLen; omega) (by omega) hb _ rfl h
  · intro j u hj
    match j, hj with
    | 0, hj => simp at hj; subst hj; simpa [Addr.add] using hc
  · intro u hu; simp at hu; subst hu; rfl

def ptr (b : Nat) : Value := .pointer (some ⟨b, 0, none⟩)
/-- a net in the making -/
structure Prt (w0 w : World) (i : Nat) (cw : Value) (rbs mbs : List Nat) : Prop where
  below : Below w0.heap.size w0 w
  net : w.heap[w0.heap.size]? = some (.cells #[cw] 97 (0, 0))
  rl : rbs.length = i
  ml : mbs.length = i
  c : w.ownsRow w0.heap.size 92 1 cw i (rbs.map ptr)
  rep : ∀ r rb mb, rbs[r]? = some rb → mbs[r]? = some mb → PRep w rb r mb 0 []
  mnd : mbs.Nodup
  lo : ∀ k, k ∈ rbs ∨ k ∈ mbs → w0.heap.size ≤ k ∧ k < w.heap.size

theorem Prt.start (w : World) : Prt w (w.alloc (.cells #[.slice none 0 0] 97)) 0 (.slice none 0 0) [] [] :=
  ⟨(Below.refl _ _).alloc (Nat.le_refl _) _, heap_alloc_new _ _, rfl, rfl, World.ownsRow_nil _ _ _ _, fun r rb mb h => by simp at h, List.nodup_nil, fun k hk => by simp at hk⟩
theorem Prt.cell {w0 w : World} {i : Nat} {cw : Value} {rbs mbs : List Nat} (h : Prt w0 w i cw rbs mbs) : w.cell? ⟨w0.heap.size, 0, none⟩ = some cw ∧ w.frozen? ⟨w0.heap.size, 0, none⟩ = false ∧ w0.heap.size < w.heap.size :=
  ⟨by simp [World.cell?, h.net], by simp [World.frozen?, h.net], (Array.getElem?_eq_some_iff.1 h.net).1⟩
/-- the row's block is no other's -/
theorem Prt.row {w0 w : World} {i : Nat} {cw : Value} {rbs mbs : List Nat} (h : Prt w0 w i cw rbs mbs) {g : Nat} (hg : cw.ownBlock = some g) : g ≠ w0.heap.size ∧ (∀ (r rb mb : Nat), rbs[r]? = some rb → mbs[r]? = some mb → g ≠ rb ∧ g ≠ mb) := by
  rcases h.c.2 with ⟨e, _⟩ | ⟨g', cap, cur, e, _, hb, _⟩
  · rw [e] at hg; cases hg
  · rw [e] at hg
    cases hg
    refine ⟨?_, fun r rb mb h1 h2 => ⟨?_, ?_⟩⟩
    · intro e2
      simp only at e2 hb
      rw [e2, h.net] at hb
      cases hb
    · intro e2
      have := (h.rep r rb mb h1 h2).rep.blk
      simp only at e2 hb
      rw [← e2, hb] at this
      cases this
    · intro e2
      obtain ⟨es, cl, hm, _⟩ := (h.rep r rb mb h1 h2).own
      simp only at e2 hb
      rw [← e2, hb] at hm
      cases hm
theorem Prt.net1 {w0 w wz w1 : World} {i : Nat} {cw : Value} {rbs mbs : List Nat} (h : Prt w0 w i cw rbs mbs) (hb : Below w.heap.size w wz) {o : Obj} (hg : (wz.alloc o).grownBy w1 cw.ownBlock) :
    w1.heap[w0.heap.size]? = w.heap[w0.heap.size]? ∧ w1.cell? ⟨w0.heap.size, 0, none⟩ = some cw ∧ w1.frozen? ⟨w0.heap.size, 0, none⟩ = false := by
  obtain ⟨h1, h2, h3⟩ := h.cell
  have e : w1.heap[w0.heap.size]? = w.heap[w0.heap.size]? := by
    have := hb.size
    rw [hg.block _ (by simp; omega) (fun e => (h.row e.symm).1 rfl), Below.heap_alloc _ _ _ (by omega)]
    exact hb.block _ h3
  exact ⟨e, (World.cell?_of_block (w := w) e).trans h1, (World.frozen?_of_block (w := w) e).trans h2⟩

/-- one replica more -/
theorem Prt.add {w0 w wz w1 : World} {i : Nat} {cw : Value} {rbs mbs : List Nat} (h : Prt w0 w i cw rbs mbs) (hb : Below w.heap.size w wz) (hz : PRep wz (w.heap.size + 1) i w.heap.size 0 []) (hzs : wz.heap.size = w.heap.size + 2) (o : Obj) (g cap : Nat)
    (ho : w1.ownsRow w0.heap.size 92 1 (.slice (some ⟨g, 0, none⟩) (i + 1) cap) (i + 1) (rbs.map ptr ++ [ptr (w.heap.size + 1)])) (hg : (wz.alloc o).grownBy w1 cw.ownBlock) (hat : cw.ownBlock = some g ∨ g = (wz.alloc o).heap.size) :
    Prt w0 (w1.setCell ⟨w0.heap.size, 0, none⟩ (.slice (some ⟨g, 0, none⟩) (i + 1) cap)) (i + 1) (.slice (some ⟨g, 0, none⟩) (i + 1) cap) (rbs ++ [w.heap.size + 1]) (mbs ++ [w.heap.size]) := by
  obtain ⟨_, _, hbl⟩ := h.cell
  obtain ⟨hnb, _, _⟩ := h.net1 hb hg
  have hst : ∀ k, k < wz.heap.size → cw.ownBlock ≠ some k → w1.heap[k]? = wz.heap[k]? := fun k hk hc => by
    rw [hg.block k (by simp; omega) (fun e => hc e.symm)]; exact Below.heap_alloc _ _ _ hk
  have hg0 : g ≠ w0.heap.size := by
    rcases hat with q | q
    · exact (h.row q).1
    · rw [q]; simp; omega
  have hcl : ∀ k, cw.ownBlock = some k → k < w.heap.size := fun k e => (World.ownsRow.lt h.c k e).2
  have hbw : Below w0.heap.size w0 w1 := by
    have h1 := h.below.trans (hb.mono h.below.size)
    exact (h1.alloc h1.size o).grown hg (by simp; have := h1.size; omega) (fun k hk => (World.ownsRow.lt h.c k hk).1)
  have hs1 : wz.heap.size ≤ w1.heap.size := by have := hg.size; simp at this; omega
  have hs2 : (w1.setCell ⟨w0.heap.size, 0, none⟩ (.slice (some ⟨g, 0, none⟩) (i + 1) cap)).heap.size = w1.heap.size := by simp [World.setCell]
  refine ⟨hbw.setCell (Nat.le_refl _) _, ?_, by simp [h.rl], by simp [h.ml], ?_, ?_, ?_, ?_⟩
  · have := heap_setCell_same w1 w0.heap.size 0 _ _ (.slice (some ⟨g, 0, none⟩) (i + 1) cap) (hnb.trans h.net)
    simpa using this
  · rw [List.map_append]
    exact ownsRow_keep ho (fun k hk => heap_set_other (by simp [Value.ownBlock] at hk; subst hk; exact hg0))
  · intro r rb mb hr hm
    by_cases hri : r < rbs.length
    · rw [List.getElem?_append_left hri] at hr
      rw [List.getElem?_append_left (by rw [h.ml, ← h.rl]; exact hri)] at hm
      have hp := h.rep r rb mb hr hm
      have l1 := h.lo rb (.inl (List.mem_of_getElem? hr))
      have l2 := h.lo mb (.inr (List.mem_of_getElem? hm))
      refine hp.keep ?_ ?_
      · rw [heap_set_other (by rintro rfl; have := hp.rep.blk; rw [h.net] at this; cases this), hst rb (by omega) (fun e => ((h.row e).2 r rb mb hr hm).1 rfl)]
        exact hb.block _ l1.2
      · rw [heap_set_other (by rintro rfl; obtain ⟨_, _, q, _⟩ := hp.own; rw [h.net] at q; cases q), hst mb (by omega) (fun e => ((h.row e).2 r rb mb hr hm).2 rfl)]
        exact hb.block _ l2.2
    · rw [List.getElem?_append_right (by omega)] at hr
      rw [List.getElem?_append_right (by rw [h.ml, ← h.rl]; omega)] at hm
      have er : r = i := by
        have := (List.getElem?_eq_some_iff.1 hr).1
        simp at this
        have := h.rl
        omega
      subst er
      rw [h.rl] at hr
      rw [h.ml] at hm
      simp at hr hm
      subst hr
      subst hm
      refine hz.keep ?_ ?_
      · rw [heap_set_other (by simp only; omega), hst _ (by omega) (fun e => by have := hcl _ e; omega)]
      · rw [heap_set_other (by simp only; omega), hst _ (by omega) (fun e => by have := hcl _ e; omega)]
  · rw [List.nodup_append]
    refine ⟨h.mnd, by simp, fun a ha b hb' => ?_⟩
    simp at hb'
    have := (h.lo a (.inr ha)).2
    omega
  · intro k hk
    rw [hs2]
    have hw := h.below.size
    rcases hk with hk | hk
    · rcases List.mem_append.1 hk with hk | hk
      · have := h.lo k (.inl hk); omega
      · simp at hk; omega
    · rcases List.mem_append.1 hk with hk | hk
      · have := h.lo k (.inr hk); omega
      · simp at hk; omega

theorem nodup_of {l : List Nat} (h : ∀ (i j a : Nat), l[i]? = some a → l[j]? = some a → i = j) : l.Nodup := by
  unfold List.Nodup
  rw [List.pairwise_iff_getElem]
  intro i j hi hj hij e
  have := h i j l[i] (List.getElem?_eq_getElem hi) (by rw [e]; exact List.getElem?_eq_getElem hj)
  omega

theorem Prt.done {w0 w : World} {n : Nat} {cw : Value} {rbs mbs : List Nat} (h : Prt w0 w n cw rbs mbs) (h1 : 1 ≤ n) (h6 : n ≤ 6) : ∃ P : PN, PNet w w0.heap.size P (newAbs n) ∧ (∀ k, P.mem w0.heap.size k → w0.heap.size ≤ k) := by
  obtain ⟨g, cap, ec, hgl, hgs⟩ := World.ownsRow.form h.c (by omega)
  have hrow := h.row (g := g) (by rw [ec]; rfl)
  have hm : ∀ r rb, rbs[r]? = some rb → ∃ mb, mbs[r]? = some mb := fun r rb hr => ⟨_, List.getElem?_eq_getElem (by have := (List.getElem?_eq_some_iff.1 hr).1; have := h.rl; have := h.ml; omega)⟩
  have hr : ∀ r mb, mbs[r]? = some mb → ∃ rb, rbs[r]? = some rb := fun r rb hr => ⟨_, List.getElem?_eq_getElem (by have := (List.getElem?_eq_some_iff.1 hr).1; have := h.rl; have := h.ml; omega)⟩
  have hc := h.c
  rw [ec] at hc
  have hmem : ∀ k, k ∈ rbs → ∃ r mb, rbs[r]? = some k ∧ mbs[r]? = some mb := fun k hk => by
    obtain ⟨r, hr'⟩ := List.getElem?_of_mem hk
    obtain ⟨mb, hmb⟩ := hm r k hr'
    exact ⟨r, mb, hr', hmb⟩
  have hmem' : ∀ k, k ∈ mbs → ∃ r rb, rbs[r]? = some rb ∧ mbs[r]? = some k := fun k hk => by
    obtain ⟨r, hr'⟩ := List.getElem?_of_mem hk
    obtain ⟨rb, hrb⟩ := hr r k hr'
    exact ⟨r, rb, hrb, hr'⟩
  refine ⟨⟨g, rbs, mbs⟩, ⟨⟨⟨cap, by rw [h.net, ec]; rfl⟩, h.rl, fun r b hb => ?_, h6⟩, h.ml, h1, fun r rb mb a b => ⟨[], h.rep r rb mb a b, rfl⟩, ?_, ?_⟩, ?_⟩
  · have hb' : rbs[r]? = some b := hb
    have hlt := (List.getElem?_eq_some_iff.1 hb').1
    have hrl := h.rl
    rw [World.ownsRow.cellAt hc r (by omega), List.getElem?_map, hb']
    rfl
  · rw [List.nodup_cons, List.nodup_cons, List.nodup_append]
    refine ⟨?_, ?_, ?_, h.mnd, ?_⟩
    · simp only [List.mem_cons, List.mem_append, not_or]
      refine ⟨fun e => hrow.1 e.symm, fun hk => ?_, fun hk => ?_⟩
      · obtain ⟨r, mb, a, b⟩ := hmem _ hk
        have := (h.rep r _ mb a b).rep.blk
        rw [h.net] at this
        cases this
      · obtain ⟨r, rb, a, b⟩ := hmem' _ hk
        obtain ⟨_, _, q, _⟩ := (h.rep r rb _ a b).own
        rw [h.net] at q
        cases q
    · simp only [List.mem_append, not_or]
      refine ⟨fun hk => ?_, fun hk => ?_⟩
      · obtain ⟨r, mb, a, b⟩ := hmem _ hk
        exact (hrow.2 r _ mb a b).1 rfl
      · obtain ⟨r, rb, a, b⟩ := hmem' _ hk
        exact (hrow.2 r rb _ a b).2 rfl
    · apply nodup_of
      intro i j a hi hj
      obtain ⟨m1, q1⟩ := hm i a hi
      obtain ⟨m2, q2⟩ := hm j a hj
      have b1 := (h.rep i a m1 hi q1).rep.c0
      have b2 := (h.rep j a m2 hj q2).rep.c0
      rw [b1] at b2
      simp at b2
      omega
    · intro a ha b hb e
      obtain ⟨r, mb, q1, q2⟩ := hmem a ha
      obtain ⟨r', rb, q3, q4⟩ := hmem' b hb
      have b1 := (h.rep r a mb q1 q2).rep.blk
      obtain ⟨_, _, b2, _⟩ := (h.rep r' rb b q3 q4).own
      rw [← e, b1] at b2
      cases b2
  · intro k hk
    rcases hk with rfl | rfl | hk | hk
    · exact h.cell.2.2
    · exact hgs
    · exact (h.lo k (.inl hk)).2
    · exact (h.lo k (.inr hk)).2
  · intro k hk
    rcases hk with rfl | rfl | hk | hk
    · exact Nat.le_refl _
    · exact hgl
    · exact (h.lo k (.inl hk)).1
    · exact (h.lo k (.inr hk)).1

set_option maxHeartbeats 400000 in
theorem netNew_bad (n : Int) (w : World) (hn : n < 1 ∨ 6 < n) :
    Calls Tryz.prog 25 #[.int .i64 n] w fun e w' => e = .returned (.tuple #[.pointer none, .int .i64 1]) ∧ w' = w := by
  by_cases h1 : n < 1
  · have d1 : decide (n < 1) = true := by simp [h1]
    go_enter Tryz.func25, Tryz.ntmps25
    go_wp2
    go_ret2
    exact ⟨rfl, rfl⟩
  · have d1 : decide (n < 1) = false := by simp; omega
    have d2 : decide (6 < n) = true := by simp; omega
    go_enter Tryz.func25, Tryz.ntmps25
    go_wp2
    go_ret2
    exact ⟨rfl, rfl⟩

set_option maxRecDepth 100000 in
set_option maxHeartbeats 1000000 in
theorem netNew_ok (n : Nat) (w : World) (h1 : 1 ≤ n) (h6 : n ≤ 6) :
    Calls Tryz.prog 25 #[.int .i64 n] w fun e w' => e = .returned (.tuple #[.pointer (some ⟨w.heap.size, 0, none⟩), .int .i64 0]) ∧ ∃ P : PN, PNet w' w.heap.size P (newAbs n) ∧ (∀ k, P.mem w.heap.size k → w.heap.size ≤ k) ∧ Below w.heap.size w w' := by
  have d1 : decide ((n : Int) < 1) = false := by simp; omega
  have d2 : decide ((6 : Int) < (n : Int)) = false := by simp; omega
  have P0 := hide (Prt.start w)
  go_enter Tryz.func25, Tryz.ntmps25
  go_wp2
  clear d1 d2
  go_loopw [15] (fun iv wr => ∃ i : Nat, i ≤ n ∧ iv = .int .i64 i ∧ ∃ cw rbs mbs, Hid (Prt w wr i cw rbs mbs)) (fun iv _ => n - (intOf iv).toNat)
  case atStart => exact ⟨0, Nat.zero_le _, rfl, _, _, _, P0⟩
  case round =>
    obtain ⟨i, hi, rfl, cw, rbs, mbs, hP⟩ := hrel
    by_cases hlt : i < n
    · obtain ⟨c0, f0, hbl⟩ := hP.out.cell
      have hbz := hP.out.below.size
      go_wp2_with fail
      go_region_law (first
        | (go_simp; go_at_call 48; refine (pnew_any i (by omega) _).mono ?_; rintro e wz ⟨rfl, hozr, hbzr, hszr⟩; have hbzz := hide (⟨hbzr.os, hbzr.tape, hbzr.output, hbzr.size, hbzr.block⟩ : Below wr.heap.size wr wz); have hoz : Hid (PRep wz (wr.heap.size + 1) i wr.heap.size 0 []) := hozr; have hsz : Hid (wz.heap.size = wr.heap.size + 2) := hszr; clear hozr hszr; have z0 : wz.cell? ⟨w.heap.size, 0, none⟩ = some cw := (hbzz.out.cell (p := ⟨w.heap.size, 0, none⟩) hbl).trans c0; have hzz := hbzz.out.size; have z3 : ∀ o, (wz.alloc o).cell? ⟨w.heap.size, 0, none⟩ = some cw := fun o => (World.cell?_alloc_old wz o ⟨w.heap.size, 0, none⟩ (by simp only; omega)).trans z0; dsimp only)
        | (refine step_app_ptr _ (by rfl) (.tmp 22) (.tmp 25) (by rfl) w.heap.size cw i (rbs.map ptr) (by rfl) ((ownsRow_keep hP.out.c (fun k hk => hbzz.out.block k (World.ownsRow.lt hP.out.c k hk).2)).alloc _) wz.heap.size ⟨wr.heap.size + 1, 0, none⟩ (by rfl) (by simp) (by omega) (by simp; omega) ?_; intro g2 cp w1 ho2 hgr2 hat2 hl2; obtain ⟨_, e2, e3⟩ := hP.out.net1 hbzz.out hgr2))
      all_goals
        have HP1 := hide (hP.out.add hbzz.out hoz.out hsz.out _ g2 cp ho2 hgr2 hat2)
        clear ho2 hgr2 hat2 hl2 e2 e3 hoz hsz hbzr z0 z3 hzz c0 f0
        generalize hW : w1.setCell ⟨w.heap.size, 0, none⟩ (.slice (some ⟨g2, 0, none⟩) (i + 1) cp) = W at *
        clear hW
        go_wp2
        go_roundw
        case rel => exact ⟨i + 1, by omega, by go_num, _, _, _, HP1⟩
        case measure => simp [intOf]; omega
    · have ei : i = n := by omega
      subst ei
      obtain ⟨P, hPN, hlo⟩ := hP.out.done h1 h6
      have HPN := hide hPN
      have HLO := hide hlo
      clear hPN hlo
      go_wp2
      go_ret2
      exact ⟨rfl, P, HPN.out, HLO.out, hP.out.below⟩

end Go.Proofs.YtaelaldmibgibaaGreatDoor
