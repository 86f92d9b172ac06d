/- The program's replica: Remove. The program's net as a whole, against a net without memory (PNet). The program's net: Remove, Read, List, Look. -/
import Derived.Test.YtaelaldmibgibaaGreatDoorW18

namespace Go.Proofs.YtaelaldmibgibaaGreatDoor
open Go.RowKit Go.Maps

theorem eqT_of {t u : Nat → Int} (h : ∀ j, j < 6 → t j = u j) : eqT t u = true := by
  unfold eqT
  rw [h 0 (by omega), h 1 (by omega), h 2 (by omega), h 3 (by omega), h 4 (by omega), h 5 (by omega)]
  simp
theorem gone_kn {w : World} {rb s mb : Nat} {c : Int} {E : Recs} (h : PRep w rb s mb c E) (p : ByteArray) : eqT (gboth (recOf s c (getE p E)).kn (tf s (c + 1))) (tf s (c + 1)) = true := by
  apply eqT_of
  intro j hj
  by_cases hs : j = s
  · subst hs
    have hc := h.c0
    have e : (recOf j c (getE p E)).kn j = c := by
      cases getE p E with
      | none => exact tf_self j c hj
      | some R =>
        show upT R.kn j c j = c
        unfold upT
        rw [if_pos rfl]
    unfold gboth g1 zer
    rw [e, tf_self j (c + 1) hj]
    (repeat' split) <;> omega
  · rw [gboth_zero _ _ j (recOf_kn h p j hj hs) (tf_other s _ j hs), tf_other s _ j hs]

set_option maxRecDepth 100000 in
set_option maxHeartbeats 1000000 in
theorem premove_none (rb s mb : Nat) (c : Int) (E : Recs) (w : World) (h : PRep w rb s mb c E) (p : ByteArray) (hp : p.size ≤ 1000000000000) (hn : getE p E = none) :
    Calls Tryz.prog 64 #[.pointer (some ⟨rb, 0, none⟩), .string p] w fun e w' => e = .returned (.int .i64 4) ∧ Fr (fun k => k = rb ∨ k = mb) w w' ∧ PRep w' rb s mb c E := by
  have C := recordOf_any rb s mb c E w h p (by unfold maxLen; omega)
  have fin : Hid (∀ V b R eb eo, St w V rb s mb b c E R eb eo → Fr (fun k => k = rb ∨ k = mb) w V ∧ PRep V rb s mb c E) := fun V b R eb eo S => ⟨S.fr, ⟨S.rep, S.own, h.ris, h.bn, h.kn, h.len, h.c0⟩⟩
  have H := hide h
  have hth := (recOf_bn h p).2
  rw [hn] at hth C
  simp only [Option.isSome_none] at hth
  generalize recOf s c none = R1 at C hth
  simp only [recVal] at C
  have CH := hide C
  clear C h hn
  go_enter Tryz.func64, Tryz.ntmps64
  go_wp2_with (first
    | (go_at_call 104; refine CH.out.mono ?_; rintro e w1 ⟨rfl, hb1r⟩; have S1 := hide (St.start H.out hb1r R1); clear hb1r)
    | (go_at_call 113; refine S1.out.there.mono ?_; rintro e w3 ⟨rfl, S3r⟩; have S3 := hide S3r; clear S3r))
  go_ret
  exact ⟨rfl, fin.out _ _ _ _ _ S3.out⟩

set_option maxRecDepth 100000 in
set_option maxHeartbeats 1000000 in
theorem premove_full (rb s mb : Nat) (c : Int) (E : Recs) (w : World) (h : PRep w rb s mb c E) (p : ByteArray) (hp : p.size ≤ 1000000000000) (hn : (getE p E).isSome = true) (hc : 1000000000 ≤ c) :
    Calls Tryz.prog 64 #[.pointer (some ⟨rb, 0, none⟩), .string p] w fun e w' => e = .returned (.int .i64 5) ∧ Fr (fun k => k = rb ∨ k = mb) w w' ∧ PRep w' rb s mb c E := by
  have C := recordOf_any rb s mb c E w h p (by unfold maxLen; omega)
  have fin : Hid (∀ V b R eb eo, St w V rb s mb b c E R eb eo → Fr (fun k => k = rb ∨ k = mb) w V ∧ PRep V rb s mb c E) := fun V b R eb eo S => ⟨S.fr, ⟨S.rep, S.own, h.ris, h.bn, h.kn, h.len, h.c0⟩⟩
  have H := hide h
  have hth := (recOf_bn h p).2
  rw [hn] at hth
  generalize recOf s c (getE p E) = R1 at C hth
  simp only [recVal] at C
  have CH := hide C
  have hd : decide (1000000000 ≤ c) = true := by simp [hc]
  clear C h hn
  go_enter Tryz.func64, Tryz.ntmps64
  go_wp2_with (first
    | (go_at_call 104; refine CH.out.mono ?_; rintro e w1 ⟨rfl, hb1r⟩; have S1 := hide (St.start H.out hb1r R1); clear hb1r)
    | (go_at_call 113; refine S1.out.there.mono ?_; rintro e w3 ⟨rfl, S3r⟩; have S3 := hide S3r; clear S3r)
    | (go_at_call 105; refine S3.out.full.mono ?_; rintro e w2 ⟨rfl, S2r⟩; have S2 := hide S2r; clear S2r))
  go_ret
  exact ⟨rfl, fin.out _ _ _ _ _ S2.out⟩

set_option maxRecDepth 100000 in
set_option maxHeartbeats 2000000 in
theorem premove_ok (rb s mb : Nat) (c : Int) (E : Recs) (w : World) (h : PRep w rb s mb c E) (p : ByteArray) (hp : p.size ≤ 1000000000000) (hn : (getE p E).isSome = true) (hc : c < 1000000000) :
    Calls Tryz.prog 64 #[.pointer (some ⟨rb, 0, none⟩), .string p] w fun e w' => e = .returned (.int .i64 0) ∧ Fr (fun k => k = rb ∨ k = mb) w w' ∧ PRep w' rb s mb (c + 1) (delE p E) := by
  have C := recordOf_any rb s mb c E w h p (by unfold maxLen; omega)
  have H := hide h
  have hc0 := h.c0
  have hth := (recOf_bn h p).2
  have hgk := gone_kn h p
  rw [hn] at hth
  generalize recOf s c (getE p E) = R1 at C hth hgk
  simp only [recVal] at C
  have CH := hide C
  have hd : decide (1000000000 ≤ c) = false := by simp; omega
  have KO : Hid (∀ V b eb eo, St w V rb s mb b (c + 1) E ⟨⟨#[]⟩, 0, 0, fun _ => 0, gboth R1.kn (tf s (c + 1))⟩ eb eo → Calls Tryz.prog 112 #[.pointer (some ⟨rb, 0, none⟩), .string p, .agg #[.string ⟨#[]⟩, .int .i64 0, .int .i64 0, .int .i64 0, .int .i64 0, .int .i64 0, .int .i64 0, .int .i64 0, .int .i64 0, .int .i64 (gboth R1.kn (tf s (c + 1)) 0), .int .i64 (gboth R1.kn (tf s (c + 1)) 1), .int .i64 (gboth R1.kn (tf s (c + 1)) 2), .int .i64 (gboth R1.kn (tf s (c + 1)) 3), .int .i64 (gboth R1.kn (tf s (c + 1)) 4), .int .i64 (gboth R1.kn (tf s (c + 1)) 5)]] V fun e w' => e = .returned (.tuple #[]) ∧ PRep w' rb s mb (c + 1) (delE p E) ∧ Fr (fun k => k = rb ∨ k = mb) w w') :=
    fun V b eb eo S => S.keepOut H.out p hp rfl hgk (by omega)
  clear C h hn hgk
  go_enter Tryz.func64, Tryz.ntmps64
  go_wp2_with (first
    | (go_at_call 104; refine CH.out.mono ?_; rintro e w1 ⟨rfl, hb1r⟩; have S1 := hide (St.start H.out hb1r R1); clear hb1r)
    | (go_at_call 113; refine S1.out.there.mono ?_; rintro e w3 ⟨rfl, S3r⟩; have S3 := hide S3r; clear S3r)
    | (go_at_call 105; refine S3.out.full.mono ?_; rintro e w2 ⟨rfl, S2r⟩; have S2 := hide S2r; clear S2r)
    | (go_at_call 107; refine (S2.out.next hc0 hc).mono ?_; rintro e w5 ⟨rfl, S5r⟩; have S5 := hide S5r; have SE := hide (S5r.alloc_ev (.cells #[.int .i64 s, .int .i64 (c + 1)] 191)); clear S5r)
    | (go_at_call 114; refine SE.out.remove.mono ?_; rintro e w7 ⟨rfl, S7r⟩; have S7 := hide S7r; obtain ⟨g0, g1⟩ := S7r.evCells; clear S7r)
    | (go_at_call 111; refine (S7.out.alone (c + 1)).mono ?_; rintro e w8 ⟨rfl, S8r⟩; have S8 := hide S8r; clear S8r)
    | (go_at_call 110; refine (S8.out.hear (tf s (c + 1)) _).mono ?_; rintro e w9 ⟨rfl, S9r⟩; have S9 := hide S9r; obtain ⟨k0, k1, k2, k3, k4, k5, k6, k7, k8, k9, k10, k11, k12, k13, k14⟩ := S9r.rc.cells; dsimp only at k0 k1 k2 k3 k4 k5 k6 k7 k8 k9 k10 k11 k12 k13 k14; clear S9r)
    | (go_at_call 112; refine (KO.out _ _ _ _ S9.out).mono ?_; rintro e w10 ⟨rfl, hPr, hFr⟩; have HP := hide hPr; have HF := hide hFr; clear hPr hFr))
  go_ret
  exact ⟨rfl, HF.out, HP.out⟩

end Go.Proofs.YtaelaldmibgibaaGreatDoor

namespace Go.Proofs.YtaelaldmibgibaaGreatDoor
open Go.RowKit Go.Maps

structure PN where
  pb : Nat
  rbs : List Nat
  mbs : List Nat
def PN.mem (P : PN) (nb k : Nat) : Prop := k = nb ∨ k = P.pb ∨ k ∈ P.rbs ∨ k ∈ P.mbs

structure PNet (w : World) (nb : Nat) (P : PN) (A : Abs) : Prop where
  net : NetAt w nb A.n P.pb P.rbs
  ml : P.mbs.length = A.n
  n1 : 1 ≤ A.n
  rep : ∀ r rb mb, P.rbs[r]? = some rb → P.mbs[r]? = some mb → ∃ E, PRep w rb r mb (A.c r) E ∧ A.F r = filesE E
  nd : (nb :: P.pb :: (P.rbs ++ P.mbs)).Nodup
  lt : ∀ k, P.mem nb k → k < w.heap.size

section
variable {w w' : World} {nb : Nat} {P : PN} {A : Abs}

theorem NetAt.keep {n pb : Nat} {rbs : List Nat} (h : NetAt w nb n pb rbs) (h1 : w'.heap[nb]? = w.heap[nb]?) (h2 : w'.heap[pb]? = w.heap[pb]?) : NetAt w' nb n pb rbs :=
  ⟨by rw [h1]; exact h.blk, h.len, fun r b hr => by rw [World.cell?_of_block (w := w) h2]; exact h.row r b hr, h.n6⟩
theorem PNet.keep (h : PNet w nb P A) (hs : w.heap.size ≤ w'.heap.size) (hk : ∀ k, P.mem nb k → w'.heap[k]? = w.heap[k]?) : PNet w' nb P A where
  net := h.net.keep (hk _ (.inl rfl)) (hk _ (.inr (.inl rfl)))
  ml := h.ml
  n1 := h.n1
  rep := fun r rb mb h1 h2 => by
    obtain ⟨E, hE, hF⟩ := h.rep r rb mb h1 h2
    exact ⟨E, hE.keep (hk _ (.inr (.inr (.inl (List.mem_of_getElem? h1))))) (hk _ (.inr (.inr (.inr (List.mem_of_getElem? h2))))), hF⟩
  nd := h.nd
  lt := fun k hk' => Nat.lt_of_lt_of_le (h.lt k hk') hs
theorem PNet.below (h : PNet w nb P A) (hb : Below w.heap.size w w') : PNet w' nb P A := h.keep hb.size (fun k hk => hb.block k (h.lt k hk))
theorem PNet.fr {F : Nat → Prop} (h : PNet w nb P A) (hf : Fr F w w') (hd : ∀ k, P.mem nb k → ¬ F k) : PNet w' nb P A := h.keep hf.size (fun k hk => hf.block k (h.lt k hk) (hd k hk))

/-- a replica that is there -/
theorem PNet.at (h : PNet w nb P A) (r : Nat) (hr : r < A.n) : ∃ rb mb E, P.rbs[r]? = some rb ∧ P.mbs[r]? = some mb ∧ PRep w rb r mb (A.c r) E ∧ A.F r = filesE E := by
  have hl := h.net.len
  have hm := h.ml
  obtain ⟨E, hE⟩ := h.rep r _ _ (List.getElem?_eq_getElem (by omega)) (List.getElem?_eq_getElem (by omega))
  exact ⟨_, _, E, List.getElem?_eq_getElem (by omega), List.getElem?_eq_getElem (by omega), hE⟩

theorem getElem_ne {l : List Nat} (h : l.Nodup) {i j : Nat} {a b : Nat} (hi : l[i]? = some a) (hj : l[j]? = some b) (hne : i ≠ j) : a ≠ b := by
  obtain ⟨hi', rfl⟩ := List.getElem?_eq_some_iff.1 hi
  obtain ⟨hj', rfl⟩ := List.getElem?_eq_some_iff.1 hj
  intro e
  exact hne ((List.getElem_inj h).1 e)

/-- one replica has turned -/
theorem PNet.turn (h : PNet w nb P A) (r : Nat) (hr : r < A.n) {rb mb : Nat} (h1 : P.rbs[r]? = some rb) (h2 : P.mbs[r]? = some mb) (hf : Fr (fun k => k = rb ∨ k = mb) w w') {c : Int} {E : Recs} (hE : PRep w' rb r mb c E) : PNet w' nb P (A.set r (filesE E) c) := by
  have hnd := h.nd
  rw [List.nodup_cons, List.nodup_cons] at hnd
  obtain ⟨n1, n2, n3⟩ := hnd
  have hrb := List.mem_of_getElem? h1
  have hmb := List.mem_of_getElem? h2
  obtain ⟨d1, d2, d3⟩ := List.nodup_append.1 n3
  have hk : ∀ k, P.mem nb k → k ≠ rb → k ≠ mb → w'.heap[k]? = w.heap[k]? := fun k hm ha hb => hf.block k (h.lt k hm) (fun e => e.elim ha hb)
  simp only [List.mem_cons, List.mem_append, not_or] at n1 n2
  refine ⟨h.net.keep (hk _ (.inl rfl) ?_ ?_) (hk _ (.inr (.inl rfl)) ?_ ?_), h.ml, h.n1, ?_, h.nd, fun k hk' => Nat.lt_of_lt_of_le (h.lt k hk') hf.size⟩
  · rintro rfl; exact n1.2.1 hrb
  · rintro rfl; exact n1.2.2 hmb
  · rintro e; rw [e] at n2; exact n2.1 hrb
  · rintro e; rw [e] at n2; exact n2.2 hmb
  · intro q qb qm hq1 hq2
    by_cases hqr : q = r
    · subst hqr
      rw [h1] at hq1
      rw [h2] at hq2
      cases hq1
      cases hq2
      refine ⟨E, ?_, ?_⟩
      · simp only [Abs.set, if_true]; exact hE
      · simp only [Abs.set, if_true]
    · obtain ⟨E', hE', hF'⟩ := h.rep q qb qm hq1 hq2
      refine ⟨E', ?_, ?_⟩
      · simp only [Abs.set, if_neg hqr]
        have hqb := List.mem_of_getElem? hq1
        have hqm := List.mem_of_getElem? hq2
        refine hE'.keep (hk _ (.inr (.inr (.inl hqb))) (getElem_ne d1 hq1 h1 hqr) (d3 _ hqb _ hmb)) (hk _ (.inr (.inr (.inr hqm))) (fun e => d3 _ hrb _ hqm e.symm) (getElem_ne d2 hq2 h2 hqr))
      · simp only [Abs.set, if_neg hqr]; exact hF'
theorem PNet.inMem (r : Nat) {rb mb : Nat} (h1 : P.rbs[r]? = some rb) (h2 : P.mbs[r]? = some mb) (k : Nat) (hk : k = rb ∨ k = mb) : P.mem nb k := by
  rcases hk with rfl | rfl
  · exact .inr (.inr (.inl (List.mem_of_getElem? h1)))
  · exact .inr (.inr (.inr (List.mem_of_getElem? h2)))
theorem set_self (A : Abs) (r : Nat) : A.set r (A.F r) (A.c r) = A := by
  unfold Abs.set
  have e1 : (fun q => if q = r then A.F r else A.F q) = A.F := by
    funext q
    split
    · rename_i e; rw [e]
    · rfl
  have e2 : (fun q => if q = r then A.c r else A.c q) = A.c := by
    funext q
    split
    · rename_i e; rw [e]
    · rfl
  rw [e1, e2]
theorem out_true {A : Abs} {r : Int} (h : A.out r = true) : ¬ (0 ≤ r ∧ r < A.n) := by
  unfold Abs.out at h
  simp at h
  omega

set_option maxHeartbeats 600000 in
theorem netWrite_any (nb : Nat) (P : PN) (A : Abs) (r : Int) (p t : ByteArray) (w : World) (h : PNet w nb P A) (hp : p.size ≤ 1000000000000) (ht : t.size ≤ 1000000000000) :
    Calls Tryz.prog 29 #[.pointer (some ⟨nb, 0, none⟩), .int .i64 r, .string p, .string t] w fun e w' => e = .returned (.int .i64 (A.writeE r p t)) ∧ PNet w' nb P (A.write r p t) ∧ Fr (P.mem nb) w w' := by
  have hpm : p.size ≤ maxLen := by unfold maxLen; omega
  have hpc : P.rbs.length = A.n := h.net.len
  cases ho : A.out r with
  | true =>
    have e1 : A.writeE r p t = 1 := by unfold Abs.writeE; rw [if_pos ho]
    have e2 : A.write r p t = A := by unfold Abs.write; rw [e1]; rfl
    rw [e1, e2]
    have H := hide h
    have C := hide (placeOf_num nb A.n P.pb P.rbs r p w h.net (out_true ho))
    clear h e1 e2 ho
    go_enter Tryz.func29, Tryz.ntmps29
    go_wp2_with (go_at_call 61; refine C.out.mono ?_; rintro e w ⟨rfl, rfl⟩)
    go_ret
    exact ⟨rfl, H.out, Fr.refl _ _⟩
  | false =>
    obtain ⟨q, rfl, hq⟩ := out_nat ho
    cases hpo : pathOk p with
    | false =>
      have e1 : A.writeE q p t = 2 := by unfold Abs.writeE; rw [if_neg (by rw [ho]; simp), if_pos hpo]
      have e2 : A.write q p t = A := by unfold Abs.write; rw [e1]; rfl
      rw [e1, e2]
      have H := hide h
      have C := hide (placeOf_path nb A.n P.pb P.rbs q p w h.net (by omega) hpo hpm)
      clear h e1 e2 ho hpo
      go_enter Tryz.func29, Tryz.ntmps29
      go_wp2_with (go_at_call 61; refine C.out.mono ?_; rintro e w ⟨rfl, rfl⟩)
      go_ret
      exact ⟨rfl, H.out, Fr.refl _ _⟩
    | true =>
      obtain ⟨rb, mb, E, h1, h2, hE, hF⟩ := h.at q hq
      have H := hide h
      have C := hide (placeOf_ok nb A.n P.pb P.rbs q rb p w h.net h1 hpo hpm)
      have hf := PNet.inMem (nb := nb) q h1 h2
      have hget := files_get p E
      rw [← hF] at hget
      by_cases h60 : 60 < t.size
      · have e1 : A.writeE q p t = 3 := by unfold Abs.writeE; rw [if_neg (by rw [ho]; simp), if_neg (by rw [hpo]; simp), if_pos h60]
        have e2 : A.write q p t = A := by unfold Abs.write; rw [e1]; rfl
        rw [e1, e2]
        have d1 : decide ((60 : Int) < (t.size : Int)) = true := by simp; omega
        clear h e1 e2 ho hpo hE hF
        go_enter Tryz.func29, Tryz.ntmps29
        go_wp2_with (go_at_call 61; refine C.out.mono ?_; rintro e w ⟨rfl, rfl⟩)
        go_ret
        exact ⟨rfl, H.out, Fr.refl _ _⟩
      · have W : ∃ E' c' z, A.writeE q p t = z ∧ A.write q p t = A.set q (filesE E') c' ∧ Hid (Calls Tryz.prog 62 #[.pointer (some ⟨rb, 0, none⟩), .string p, .string t] w fun e w' => e = .returned (.int .i64 z) ∧ Fr (fun k => k = rb ∨ k = mb) w w' ∧ PRep w' rb q mb c' E') := by
          by_cases hfull : 1000000000 ≤ A.c q ∨ (getE p E = none ∧ 20 ≤ E.length)
          · have e1 : A.writeE q p t = 5 := by
              unfold Abs.writeE
              rw [if_neg (by rw [ho]; simp), if_neg (by rw [hpo]; simp), if_neg h60, Int.toNat_natCast, if_pos]
              rcases hfull with hh | ⟨hh, hl⟩
              · exact .inl hh
              · exact .inr ⟨by rw [hget, hh]; rfl, by rw [hF, files_length]; exact hl⟩
            refine ⟨E, A.c q, 5, e1, ?_, pwrite_full rb q mb (A.c q) E w hE p t hp hfull⟩
            rw [← hF, set_self]
            unfold Abs.write; rw [e1]; rfl
          · have e1 : A.writeE q p t = 0 := by
              unfold Abs.writeE
              rw [if_neg (by rw [ho]; simp), if_neg (by rw [hpo]; simp), if_neg h60, Int.toNat_natCast, if_neg]
              rintro (hh | ⟨hh, hl⟩)
              · exact hfull (.inl hh)
              · refine hfull (.inr ⟨?_, by rw [hF, files_length] at hl; exact hl⟩)
                rw [hget] at hh
                simpa using hh
            refine ⟨_, _, 0, e1, ?_, pwrite_ok rb q mb (A.c q) E w hE p t hp ht (by have : ¬ 1000000000 ≤ A.c q := fun hh => hfull (.inl hh); omega) ?_⟩
            · unfold Abs.write
              rw [if_pos e1, Int.toNat_natCast, files_put p t _ E rfl, hF]
            · by_cases hn : getE p E = none
              · exact .inr (by have : ¬ 20 ≤ E.length := fun hl => hfull (.inr ⟨hn, hl⟩); omega)
              · exact .inl hn
        obtain ⟨E', c', z, e1, e2, WC⟩ := W
        rw [e1, e2]
        have d1 : decide ((60 : Int) < (t.size : Int)) = false := by simp; omega
        have T := hide (fun w' (hf' : Fr (fun k => k = rb ∨ k = mb) w w') (hP : PRep w' rb q mb c' E') => (⟨h.turn q hq h1 h2 hf' hP, hf'.mono (fun k _ e => hf k e)⟩ : PNet w' nb P (A.set q (filesE E') c') ∧ Fr (P.mem nb) w w'))
        clear h e1 e2 ho hpo hE hF hget h60
        go_enter Tryz.func29, Tryz.ntmps29
        go_wp2_with (first
          | (go_at_call 61; refine C.out.mono ?_; rintro e w ⟨rfl, rfl⟩)
          | (go_at_call 62; refine WC.out.mono ?_; rintro e w5 ⟨rfl, hf5, hP5⟩; have T5 := hide (T.out w5 hf5 hP5); clear hf5 hP5))
        go_ret
        exact ⟨rfl, T5.out.1, T5.out.2⟩
end

end Go.Proofs.YtaelaldmibgibaaGreatDoor

namespace Go.Proofs.YtaelaldmibgibaaGreatDoor
open Go.RowKit Go.Maps

section
variable {w w' : World} {nb : Nat} {P : PN} {A : Abs}

set_option maxHeartbeats 600000 in
theorem netRemove_any (nb : Nat) (P : PN) (A : Abs) (r : Int) (p : ByteArray) (w : World) (h : PNet w nb P A) (hp : p.size ≤ 1000000000000) :
    Calls Tryz.prog 33 #[.pointer (some ⟨nb, 0, none⟩), .int .i64 r, .string p] w fun e w' => e = .returned (.int .i64 (A.removeE r p)) ∧ PNet w' nb P (A.remove r p) ∧ Fr (P.mem nb) w w' := by
  have hpm : p.size ≤ maxLen := by unfold maxLen; omega
  have hpc : P.rbs.length = A.n := h.net.len
  cases ho : A.out r with
  | true =>
    have e1 : A.removeE r p = 1 := by unfold Abs.removeE; rw [if_pos ho]
    have e2 : A.remove r p = A := by unfold Abs.remove; rw [e1]; rfl
    rw [e1, e2]
    have H := hide h
    have C := hide (placeOf_num nb A.n P.pb P.rbs r p w h.net (out_true ho))
    clear h e1 e2 ho
    go_enter Tryz.func33, Tryz.ntmps33
    go_wp2_with (go_at_call 61; refine C.out.mono ?_; rintro e w ⟨rfl, rfl⟩)
    go_ret
    exact ⟨rfl, H.out, Fr.refl _ _⟩
  | false =>
    obtain ⟨q, rfl, hq⟩ := out_nat ho
    cases hpo : pathOk p with
    | false =>
      have e1 : A.removeE q p = 2 := by unfold Abs.removeE; rw [if_neg (by rw [ho]; simp), if_pos hpo]
      have e2 : A.remove q p = A := by unfold Abs.remove; rw [e1]; rfl
      rw [e1, e2]
      have H := hide h
      have C := hide (placeOf_path nb A.n P.pb P.rbs q p w h.net (by omega) hpo hpm)
      clear h e1 e2 ho hpo
      go_enter Tryz.func33, Tryz.ntmps33
      go_wp2_with (go_at_call 61; refine C.out.mono ?_; rintro e w ⟨rfl, rfl⟩)
      go_ret
      exact ⟨rfl, H.out, Fr.refl _ _⟩
    | true =>
      obtain ⟨rb, mb, E, h1, h2, hE, hF⟩ := h.at q hq
      have H := hide h
      have C := hide (placeOf_ok nb A.n P.pb P.rbs q rb p w h.net h1 hpo hpm)
      have hf := PNet.inMem (nb := nb) q h1 h2
      have hget := files_get p E
      rw [← hF] at hget
      have W : ∃ E' c' z, A.removeE q p = z ∧ A.remove q p = A.set q (filesE E') c' ∧ Hid (Calls Tryz.prog 64 #[.pointer (some ⟨rb, 0, none⟩), .string p] w fun e w' => e = .returned (.int .i64 z) ∧ Fr (fun k => k = rb ∨ k = mb) w w' ∧ PRep w' rb q mb c' E') := by
        cases hg : getE p E with
        | none =>
          have e1 : A.removeE q p = 4 := by
            unfold Abs.removeE
            rw [if_neg (by rw [ho]; simp), if_neg (by rw [hpo]; simp), Int.toNat_natCast, if_pos (by rw [hget, hg]; rfl)]
          refine ⟨E, A.c q, 4, e1, ?_, premove_none rb q mb (A.c q) E w hE p hp hg⟩
          rw [← hF, set_self]
          unfold Abs.remove; rw [e1]; rfl
        | some R0 =>
          have hs : (getE p E).isSome = true := by rw [hg]; rfl
          by_cases hfull : 1000000000 ≤ A.c q
          · have e1 : A.removeE q p = 5 := by
              unfold Abs.removeE
              rw [if_neg (by rw [ho]; simp), if_neg (by rw [hpo]; simp), Int.toNat_natCast, if_neg (by rw [hget, hg]; simp), if_pos hfull]
            refine ⟨E, A.c q, 5, e1, ?_, premove_full rb q mb (A.c q) E w hE p hp hs hfull⟩
            rw [← hF, set_self]
            unfold Abs.remove; rw [e1]; rfl
          · have e1 : A.removeE q p = 0 := by
              unfold Abs.removeE
              rw [if_neg (by rw [ho]; simp), if_neg (by rw [hpo]; simp), Int.toNat_natCast, if_neg (by rw [hget, hg]; simp), if_neg hfull]
            refine ⟨_, _, 0, e1, ?_, premove_ok rb q mb (A.c q) E w hE p hp hs (by omega)⟩
            unfold Abs.remove
            rw [if_pos e1, Int.toNat_natCast, files_del p E, hF]
      obtain ⟨E', c', z, e1, e2, WC⟩ := W
      rw [e1, e2]
      have T := hide (fun w' (hf' : Fr (fun k => k = rb ∨ k = mb) w w') (hP : PRep w' rb q mb c' E') => (⟨h.turn q hq h1 h2 hf' hP, hf'.mono (fun k _ e => hf k e)⟩ : PNet w' nb P (A.set q (filesE E') c') ∧ Fr (P.mem nb) w w'))
      clear h e1 e2 ho hpo hE hF hget
      go_enter Tryz.func33, Tryz.ntmps33
      go_wp2_with (first
        | (go_at_call 61; refine C.out.mono ?_; rintro e w ⟨rfl, rfl⟩)
        | (go_at_call 64; refine WC.out.mono ?_; rintro e w5 ⟨rfl, hf5, hP5⟩; have T5 := hide (T.out w5 hf5 hP5); clear hf5 hP5))
      go_ret
      exact ⟨rfl, T5.out.1, T5.out.2⟩

set_option maxHeartbeats 600000 in
theorem netRead_any (nb : Nat) (P : PN) (A : Abs) (r : Int) (p : ByteArray) (w : World) (h : PNet w nb P A) (hp : p.size ≤ 1000000000000) :
    Calls Tryz.prog 30 #[.pointer (some ⟨nb, 0, none⟩), .int .i64 r, .string p] w fun e w' => e = .returned (.tuple #[.string (A.readT r p), .int .i64 (A.readE r p)]) ∧ Below w.heap.size w w' := by
  have hpm : p.size ≤ maxLen := by unfold maxLen; omega
  cases ho : A.out r with
  | true =>
    have e1 : A.readE r p = 1 := by unfold Abs.readE; rw [if_pos ho]
    have e2 : A.readT r p = ⟨#[]⟩ := by unfold Abs.readT; rw [e1]; rfl
    rw [e1, e2]
    have C := hide (placeOf_num nb A.n P.pb P.rbs r p w h.net (out_true ho))
    clear h e1 e2 ho
    go_enter Tryz.func30, Tryz.ntmps30
    go_wp2_with (go_at_call 61; refine C.out.mono ?_; rintro e w ⟨rfl, rfl⟩)
    go_ret2
    exact ⟨rfl, Below.refl _ _⟩
  | false =>
    obtain ⟨q, rfl, hq⟩ := out_nat ho
    cases hpo : pathOk p with
    | false =>
      have e1 : A.readE q p = 2 := by unfold Abs.readE; rw [if_neg (by rw [ho]; simp), if_pos hpo]
      have e2 : A.readT q p = ⟨#[]⟩ := by unfold Abs.readT; rw [e1]; rfl
      rw [e1, e2]
      have C := hide (placeOf_path nb A.n P.pb P.rbs q p w h.net (by omega) hpo hpm)
      clear h e1 e2 ho hpo
      go_enter Tryz.func30, Tryz.ntmps30
      go_wp2_with (go_at_call 61; refine C.out.mono ?_; rintro e w ⟨rfl, rfl⟩)
      go_ret2
      exact ⟨rfl, Below.refl _ _⟩
    | true =>
      obtain ⟨rb, mb, E, h1, h2, hE, hF⟩ := h.at q hq
      have C := hide (placeOf_ok nb A.n P.pb P.rbs q rb p w h.net h1 hpo hpm)
      have hget := files_get p E
      rw [← hF] at hget
      have W : ∃ t z, A.readE q p = z ∧ A.readT q p = t ∧ Hid (Calls Tryz.prog 63 #[.pointer (some ⟨rb, 0, none⟩), .string p] w fun e w' => e = .returned (.tuple #[.string t, .int .i64 z]) ∧ Below w.heap.size w w') := by
        cases hg : getE p E with
        | none =>
          have e1 : A.readE q p = 4 := by
            unfold Abs.readE
            rw [if_neg (by rw [ho]; simp), if_neg (by rw [hpo]; simp), Int.toNat_natCast, if_pos (by rw [hget, hg]; rfl)]
          exact ⟨⟨#[]⟩, 4, e1, by unfold Abs.readT; rw [e1]; rfl, pread_none rb q mb (A.c q) E w hE p hpm hg⟩
        | some R0 =>
          have e1 : A.readE q p = 0 := by
            unfold Abs.readE
            rw [if_neg (by rw [ho]; simp), if_neg (by rw [hpo]; simp), Int.toNat_natCast, if_neg (by rw [hget, hg]; simp)]
          refine ⟨R0.text, 0, e1, ?_, pread_some rb q mb (A.c q) E w hE p hpm R0 hg⟩
          unfold Abs.readT
          rw [if_pos e1, Int.toNat_natCast, hget, hg]
          rfl
      obtain ⟨t, z, e1, e2, WC⟩ := W
      rw [e1, e2]
      clear h e1 e2 ho hpo hE hF hget
      go_enter Tryz.func30, Tryz.ntmps30
      go_wp2_with (first
        | (go_at_call 61; refine C.out.mono ?_; rintro e w ⟨rfl, rfl⟩)
        | (go_at_call 63; refine WC.out.mono ?_; rintro e w5 ⟨rfl, hb5r⟩; have hb5 := hide hb5r; clear hb5r))
      go_ret2
      exact ⟨rfl, hb5.out⟩

/-- down to a replica's block -/
theorem PNet.cells (h : PNet w nb P A) (q rb : Nat) (h1 : P.rbs[q]? = some rb) : ∃ cap, w.cell? ⟨nb, 0, none⟩ = some (.slice (some ⟨P.pb, 0, none⟩) A.n cap) ∧ w.cell? ⟨P.pb, q, none⟩ = some (.pointer (some ⟨rb, 0, none⟩)) := by
  obtain ⟨cap, hb⟩ := h.net.blk
  exact ⟨cap, by simp [World.cell?, hb], h.net.row q rb h1⟩

set_option maxHeartbeats 600000 in
theorem netList_any (nb : Nat) (P : PN) (A : Abs) (r : Int) (w : World) (h : PNet w nb P A) :
    Calls Tryz.prog 95 #[.pointer (some ⟨nb, 0, none⟩), .int .i64 r] w fun e w' => ∃ v, e = .returned (.tuple #[v, .int .i64 (A.listE r)]) ∧ w'.ownsRow w.heap.size 9 1 v (A.listL r).length (svs (A.listL r)) ∧ Below w.heap.size w w' := by
  have HA := hide (has_any nb A.n P.pb P.rbs r w h.net)
  cases ho : A.out r with
  | true =>
    have e1 : A.listE r = 1 := by unfold Abs.listE; rw [if_pos ho]
    have e2 : A.listL r = [] := by unfold Abs.listL; rw [if_pos ho]
    rw [e1, e2]
    rw [decide_eq_false (out_true ho)] at HA
    clear h e1 e2 ho
    go_enter Tryz.func95, Tryz.ntmps95
    go_wp2_with (go_at_call 36; refine HA.out.mono ?_; rintro e w ⟨rfl, rfl⟩)
    go_ret2
    exact ⟨_, rfl, World.ownsRow_nil _ _ _ _, Below.refl _ _⟩
  | false =>
    have e1 : A.listE r = 0 := by unfold Abs.listE; rw [if_neg (by rw [ho]; simp)]
    have e2 : A.listL r = (A.F r.toNat).map (·.1) := by unfold Abs.listL; rw [if_neg (by rw [ho]; simp)]
    obtain ⟨q, rfl, hq⟩ := out_nat ho
    obtain ⟨rb, mb, E, h1, h2, hE, hF⟩ := h.at q hq
    rw [Int.toNat_natCast, hF] at e2
    have e3 : A.listL q = E.map (·.1) := by rw [e2]; unfold filesE; rw [List.map_map]; rfl
    rw [e1, e3, List.length_map]
    rw [decide_eq_true (by omega)] at HA
    have L := hide (plist_any rb q _ mb w hE.rep E hE.ris (by have := hE.len; omega) hE.bn hE.own)
    obtain ⟨cap, c0, cr⟩ := h.cells q rb h1
    have hn6 := h.net.n6
    clear h e1 e2 e3 ho hE hF h1 h2
    go_enter Tryz.func95, Tryz.ntmps95
    go_wp2_with (first
      | (go_at_call 36; refine HA.out.mono ?_; rintro e w ⟨rfl, rfl⟩)
      | (go_at_call 165; refine L.out.mono ?_; rintro e w5 ⟨v, rfl, hor, hbr⟩; have HO := hide hor; have HB := hide hbr; clear hor hbr))
    go_ret2
    exact ⟨_, rfl, HO.out, HB.out⟩
end

attribute [local go_sem ↓] stState
attribute [local go_sem] run_stState

set_option maxHeartbeats 600000 in
theorem netLook_any (nb : Nat) (P : PN) (A : Abs) (r : Int) (w : World) (h : PNet w nb P A) :
    Calls Tryz.prog 86 #[.pointer (some ⟨nb, 0, none⟩), .int .i64 r] w fun e w' => e = .returned (.tuple #[A.lookV r, .int .i64 (A.lookE r)]) ∧ Below w.heap.size w w' := by
  have MB : Hid (Mine w w.heap.size 3 (w.alloc (.cells #[.int .i64 0, .int .i64 0, .int .i64 0] 166))) := Mine.made' w #[.int .i64 0, .int .i64 0, .int .i64 0] 166 (n := 3) rfl
  have mth := MB.out.there
  have HA := hide (has_any nb A.n P.pb P.rbs r _ (h.below MB.out.below).net)
  have hnl := h.lt nb (.inl rfl)
  cases ho : A.out r with
  | true =>
    have e1 : A.lookE r = 1 := by unfold Abs.lookE; rw [if_pos ho]
    have e2 : A.lookV r = .agg #[.int .i64 0, .int .i64 0, .int .i64 0] := by unfold Abs.lookV; rw [if_pos ho]
    rw [e1, e2]
    rw [decide_eq_false (out_true ho)] at HA
    clear h e1 e2 ho
    go_enter Tryz.func86, Tryz.ntmps86
    go_wp2_with (go_at_call 36; refine HA.out.mono ?_; rintro e w7 ⟨rfl, rfl⟩)
    exact bodyPost_ret (ret_cell_tmp Tryz.results86 (a := ⟨w.heap.size, 0, none⟩) rfl (load_stored (cs := [_, _, _]) MB.out.there Tryz.underlying166 rfl size_State)) rfl ⟨rfl, (Mine.setCells (p := True) ⟨MB.out, trivial⟩ 0 _).below⟩
  | false =>
    have e1 : A.lookE r = 0 := by unfold Abs.lookE; rw [if_neg (by rw [ho]; simp)]
    have e2 : A.lookV r = .agg #[.int .i64 (A.c r.toNat), .int .i64 (A.F r.toNat).length, .int .i64 (A.F r.toNat).length] := by unfold Abs.lookV; rw [if_neg (by rw [ho]; simp)]
    obtain ⟨q, rfl, hq⟩ := out_nat ho
    obtain ⟨rb, mb, E, h1, h2, hE, hF⟩ := h.at q hq
    rw [Int.toNat_natCast, hF, files_length] at e2
    rw [e1, e2]
    rw [decide_eq_true (by omega)] at HA
    have L := hide (plook_any rb q mb (A.c q) E _ (hE.below MB.out.below))
    obtain ⟨cap, c0, cr⟩ := (h.below MB.out.below).cells q rb h1
    have hn6 := h.net.n6
    have fin : Hid (∀ V, Below (w.alloc (.cells #[.int .i64 0, .int .i64 0, .int .i64 0] 166)).heap.size (w.alloc (.cells #[.int .i64 0, .int .i64 0, .int .i64 0] 166)) V → Mine w w.heap.size 3 V) := fun V hb => Mine.call (p := True) ⟨MB.out, trivial⟩ hb
    clear h e1 e2 ho hE hF h1 h2 mth
    go_enter Tryz.func86, Tryz.ntmps86
    go_wp2_with (first
      | (go_at_call 36; refine HA.out.mono ?_; rintro e w7 ⟨rfl, rfl⟩)
      | (go_at_call 148; refine L.out.mono ?_; rintro e w5 ⟨rfl, hbr⟩; have M5 := hide (fin.out w5 hbr); have mth := (fin.out w5 hbr).there; clear hbr))
    exact bodyPost_ret (ret_cell_tmp Tryz.results86 (a := ⟨w.heap.size, 0, none⟩) rfl (load_stored (cs := [_, _, _]) M5.out.there Tryz.underlying166 rfl size_State)) rfl ⟨rfl, (Mine.setCells (p := True) ⟨M5.out, trivial⟩ 0 _).below⟩

end Go.Proofs.YtaelaldmibgibaaGreatDoor
