/- The program's readRecords. -/
import Derived.Test.YtaelaldmibgibaaGreatDoorU41
import Derived.Test.YtaelaldmibgibaaGreatDoorU42

set_option linter.unusedVariables false
set_option linter.unusedSimpArgs false

namespace Go.Proofs.YtaelaldmibgibaaGreatDoor
open Go.RowKit Go.Lib Go.Maps

/-- a round under way: the records so far, one more in a block of its own -/
structure RJ (w wr W : World) (rb s : Nat) (cm : Nat → Int) (mb : Nat) (D : Drs) (b : Nat) (R : Rec) : Prop where
  rp : Rp W rb s cm mb (toE D)
  bel : Below wr.heap.size wr W
  rc : RecAt W b R
theorem RJ.more {w wr W W' : World} {rb s mb : Nat} {cm : Nat → Int} {D : Drs} {b : Nat} {R : Rec} (h : RJ w wr W rb s cm mb D b R) (hb : Below W.heap.size W W') : RJ w wr W' rb s cm mb D b R :=
  ⟨h.rp.below hb, h.bel.trans (hb.mono h.bel.size), ⟨by rw [hb.block b (Array.getElem?_eq_some_iff.1 h.rc.blk).1]; exact h.rc.blk⟩⟩
theorem RJ.made {w wr W : World} {rb s mb : Nat} {cm : Nat → Int} {D : Drs} (h : Rp wr rb s cm mb (toE D)) (hb : Below wr.heap.size wr W) (R : Rec) : RJ w wr (W.alloc (.cells #[.string R.text, .int .i64 R.br, .int .i64 R.bn, .int .i64 (R.ch 0), .int .i64 (R.ch 1), .int .i64 (R.ch 2), .int .i64 (R.ch 3), .int .i64 (R.ch 4), .int .i64 (R.ch 5), .int .i64 (R.kn 0), .int .i64 (R.kn 1), .int .i64 (R.kn 2), .int .i64 (R.kn 3), .int .i64 (R.kn 4), .int .i64 (R.kn 5)] 197)) rb s cm mb D W.heap.size R :=
  ⟨(h.below hb).below ((Below.refl _ _).alloc (Nat.le_refl _) _), hb.alloc hb.size _, ⟨heap_alloc_new _ _⟩⟩

set_option maxRecDepth 100000 in
set_option maxHeartbeats 1000000 in
theorem readRecords_any (rb s : Nat) (cm : Nat → Int) (mb : Nat) (t0 : ByteArray) (ht0 : t0.size ≤ 10000000) (n : Nat) (h1 : 1 ≤ n) (h6 : n ≤ 6) (w : World) (hg : Glob w) (h : Rp w rb s cm mb []) (hm8 : 8 ≤ mb) :
    Calls Tryz.prog 147 #[.pointer (some ⟨rb, 0, none⟩), .string t0, .int .i64 n] w fun e w' => RAns (recsR n s cm (t0.size + 1) (bs t0) ⟨#[]⟩) w' rb s cm mb e ∧ Fr (fun k => k = mb) w w' := by
  generalize hA : recsR n s cm (t0.size + 1) (bs t0) ⟨#[]⟩ = A
  have I0 : Hid (RI w w rb s cm mb n A t0 ⟨#[]⟩ []) := ⟨h, Fr.refl _ _, by rw [hA]; cases A <;> simp, by simpa using ht0, fun y hy => by simp at hy, List.Pairwise.nil⟩
  have GL : Hid (∀ wr, Fr (fun k => k = mb) w wr → Glob wr) := fun wr hf => hg.fr hf (fun k hk e => by omega)
  clear hg h hA
  go_enter Tryz.func147, Tryz.ntmps147
  go_wp2
  go_loopw [1, 8] (fun tv lv wr => ∃ (x last : ByteArray) (D : Drs), tv = .string x ∧ lv = .string last ∧ Hid (RI w wr rb s cm mb n A x last D)) (fun tv _ _ => strSz tv)
  case atStart => exact ⟨t0, ⟨#[]⟩, [], rfl, rfl, I0⟩
  case round =>
    clear I0
    obtain ⟨x, last, D, rfl, rfl, hI⟩ := hrel
    have hxs : x.size ≤ 10000000 := by have := hI.out.len; omega
    have CL := hide (cutLine_cap x hxs wr (GL.out wr hI.out.fr))
    by_cases h3 : (fieldsR (bs x)).length < 3
    · have d3 : decide (((fieldsR (bs x)).length : Int) < 3) = true := by simp; omega
      have e := hI.out.done h3
      subst e
      generalize hL : (fieldsR (bs x)).length = L at *
      have RT : Hid (∀ W, Below wr.heap.size wr W → RAns (some (bs x, D)) W rb s cm mb (.returned (.tuple #[.string x, .bool true])) ∧ Fr (fun k => k = mb) w W) := fun W hW => ⟨⟨by rw [ofBs_bs], hI.out.rp.below hW⟩, hI.out.fr.trans (Fr.of_below hW)⟩
      generalize fieldsR (bs x) = fs at *
      generalize ofBs (restR (bs x)) = rs at *
      clear hL
      go_wp2_with (go_at_call 145; refine CL.out.mono ?_; rintro e w1 ⟨B, C, rfl, hF, hB, hb1, hcp⟩; have HB := hide hb1; clear hF hB hb1 hcp)
      go_ret2
      exact RT.out _ HB.out
    · obtain ⟨p, a, fs, hf, hfl, hfl4⟩ : ∃ p a fs, fieldsR (bs x) = p :: a :: fs ∧ 1 ≤ fs.length ∧ fs.length ≤ 4 := by
        have hle := fields_len (bs x)
        match hq : fieldsR (bs x) with
        | [] => rw [hq] at h3; simp at h3
        | [p] => rw [hq] at h3; simp at h3
        | p :: a :: fs => rw [hq] at h3 hle; simp at h3 hle; exact ⟨p, a, fs, rfl, by omega, by omega⟩
      have hsz : ∀ q ∈ p :: a :: fs, q.length ≤ 10000000 := fun q hq => by
        have h1 := sepBy_part 32 (fieldsR (bs x)) q (by rw [hf]; exact hq)
        rw [fields_join] at h1
        have h2 := (cut_size 10 (bs x)).1
        rw [bs_len] at h2
        unfold lineR at h1
        omega
      have RR : Hid (∀ (W : World) (B C : Nat), Below wr.heap.size wr W → Flds W B (p :: a :: fs) → (p :: a :: fs).length ≤ C → Calls Tryz.prog 196 #[.slice (some ⟨B, 1, none⟩) (fs.length + 1) (C - 1), .int .i64 n] W fun e w' => ∃ R : Rec, e = .returned (.tuple #[recVal R, .bool (recR n (a :: fs)).isSome]) ∧ (∀ d, recR n (a :: fs) = some d → R = toRec d) ∧ Below wr.heap.size wr w') := fun W B C hW hF hC => by
        refine (readRecord_any B 1 (C - 1) a fs (by omega) hfl (by simp at hC; omega) (fun q hq => hsz q (List.mem_cons_of_mem _ hq)) n h1 h6 W ⟨fun j q hq => ?_, hF.lt⟩ ((GL.out wr hI.out.fr).below hW)).mono ?_
        · have := hF.pc (j + 1) q (by simpa using hq)
          rw [show 1 + j = j + 1 by omega]
          exact this
        · rintro e w' ⟨R, rfl, h2, h3⟩
          exact ⟨R, rfl, h2, hW.trans (h3.mono hW.size)⟩
      have hps : (ofBs p).size ≤ 10000000 := by rw [ofBs_size]; exact hsz p (by simp)
      have HI := hI
      have STOP := hide (fun hb => hI.out.stop hf hfl hb)
      have NEXT := hide (fun (w5 : World) (d : DS) hd hp hs hc h5 hfr => hI.out.next (w5 := w5) (d := d) hf hfl hd hp hs hc h5 hfr)
      have BAD : Hid (A = none → ∀ W, Below wr.heap.size wr W → RAns A W rb s cm mb (.returned (.tuple #[.string ⟨#[]⟩, .bool false])) ∧ Fr (fun k => k = mb) w W) := fun e W hW => by
        subst e
        exact ⟨rfl, hI.out.fr.trans (Fr.of_below hW)⟩
      rw [hf] at CL
      have FP : Hid (∀ (W : World) (B : Nat), Flds W B (p :: a :: fs) → W.cell? ⟨B, 0, none⟩ = some (.string (ofBs p))) := fun W B hF => hF.pc 0 p rfl
      have IP : Hid (∀ W : World, Calls Tryz.prog 103 #[.string (ofBs p)] W fun e w' => e = .returned (.bool (pathOk (ofBs p))) ∧ w' = W) := fun W => isPath_any (ofBs p) W (by unfold maxLen; omega)
      simp only [List.length_cons] at CL RR
      have m1 : ¬ ((fs.length : Int) + 1 + 1 < 3) := by omega
      have m2 : decide ((fs.length : Int) + 1 + 1 < 3) = false := by simp; omega
      generalize hm : fs.length = m at *
      have RSZ : Hid ((ofBs (restR (bs x))).size < x.size) := by
        unfold Hid
        rw [ofBs_size]
        have := rest_sh (fields_nil h3)
        rw [bs_len] at this
        exact this
      generalize ofBs (restR (bs x)) = rs at *
      cases hrec : recR n (a :: fs) with
      | none =>
        have e := STOP.out (.inl hrec)
        rw [hrec] at RR
        simp only [Option.isSome_none] at RR
        go_wp2_with (first
          | (go_at_call 145; refine CL.out.mono ?_; rintro e w1 ⟨B, C, rfl, hF, hB, hb1, hcp⟩; have HB := hide hb1; have HF := hide hF; have f0 := FP.out w1 B hF; have hC1 : ¬ C = 1 := (by omega); clear hF hB hb1)
          | (go_at_call 196; refine (RR.out _ B C HB.out HF.out hcp).mono ?_; rintro e w2 ⟨R, rfl, _, hb2⟩; have HB2 := hide hb2; clear hb2; unfold recVal; dsimp only))
        go_ret2
        exact BAD.out e _ (HB2.out.alloc HB2.out.size _)
      | some d =>
        have RR2 : Hid (∀ (W : World) (B C : Nat), Below wr.heap.size wr W → Flds W B (p :: a :: fs) → m + 1 + 1 ≤ C → Calls Tryz.prog 196 #[.slice (some ⟨B, 1, none⟩) (m + 1) (C - 1), .int .i64 n] W fun e w' => e = .returned (.tuple #[recVal (toRec d), .bool true]) ∧ Below wr.heap.size wr w') := fun W B C a1 a2 a3 => by
          refine (RR.out W B C a1 a2 a3).mono ?_
          rintro e w' ⟨R, rfl, hR, hb⟩
          rw [hR d hrec, hrec]
          exact ⟨rfl, hb⟩
        have CK := hide (fun W (hW : RepAt W rb s cm mb) => couldKeep_any rb s cm mb W hW (toRec d))
        have KP : Hid (couldB s cm (toRec d) = true → ∀ W, Rp W rb s cm mb (toE D) → Calls Tryz.prog 112 #[.pointer (some ⟨rb, 0, none⟩), .string (ofBs p), recVal (toRec d)] W fun e w' => e = .returned (.tuple #[]) ∧ Rp w' rb s cm mb (putE (ofBs p) (toRec d) (toE D)) ∧ Fr (fun k => k = mb) W w') := fun hc W hW => by
          have hk : (decide (0 < (toRec d).bn) || !eqT (toRec d).kn cm) = true := by
            unfold couldB at hc
            simp only [Bool.and_eq_true] at hc
            exact hc.2.2
          exact keep_must rb s cm mb W (toE D) hW (by rw [toE_len]; have := HI.out.len; unfold maxLen; omega) (ofBs p) (by omega) (toRec d) (by unfold toRec; simp only; omega) hk
        have ST1 : Hid ((pathOk (ofBs p) && slt last (ofBs p) && couldB s cm (toRec d)) = false → A = none) := fun hb => STOP.out (.inr ⟨d, hrec, hb⟩)
        have NX := hide (fun (w5 : World) hp hs hc h5 hfr => NEXT.out w5 d hrec hp hs hc h5 hfr)
        have LE := le_slt (ofBs p) last
        clear RR STOP NEXT hrec hsz
        generalize toRec d = R at *
        generalize couldB s cm R = z3 at *
        generalize hz2 : slt last (ofBs p) = z2 at *
        generalize pathOk (ofBs p) = z1 at *
        unfold slt seq at LE
        clear hz2 hf h3
        generalize ofBs p = q at *
        unfold recVal at RR2 CK KP
        cases z1 with
        | false =>
          have e := ST1.out rfl
          go_wp2_with (first
            | (go_at_call 145; refine CL.out.mono ?_; rintro e w1 ⟨B, C, rfl, hF, hB, hb1, hcp⟩; have HB := hide hb1; have HF := hide hF; have f0 := FP.out w1 B hF; have hC1 : ¬ C = 1 := (by omega); clear hF hB hb1)
            | (go_at_call 196; refine (RR2.out _ B C HB.out HF.out hcp).mono ?_; rintro e w2 ⟨rfl, hb2⟩; have HB2 := hide hb2; have J2 := hide (RJ.made (w := w) HI.out.rp hb2 R); clear hb2; dsimp only)
            | (go_at_call 103; refine (IP.out _).mono ?_; rintro e w3 ⟨rfl, rfl⟩))
          go_ret2
          exact BAD.out e _ J2.out.bel
        | true =>
          cases z2 with
          | false =>
            have e := ST1.out rfl
            rw [Bool.not_false] at LE
            go_wp2_with (first
              | (go_at_call 145; refine CL.out.mono ?_; rintro e w1 ⟨B, C, rfl, hF, hB, hb1, hcp⟩; have HB := hide hb1; have HF := hide hF; have f0 := FP.out w1 B hF; have hC1 : ¬ C = 1 := (by omega); clear hF hB hb1)
              | (go_at_call 196; refine (RR2.out _ B C HB.out HF.out hcp).mono ?_; rintro e w2 ⟨rfl, hb2⟩; have HB2 := hide hb2; have J2 := hide (RJ.made (w := w) HI.out.rp hb2 R); clear hb2; dsimp only)
              | (go_at_call 103; refine (IP.out _).mono ?_; rintro e w3 ⟨rfl, rfl⟩))
            go_ret2
            exact BAD.out e _ J2.out.bel
          | true =>
            rw [Bool.not_true] at LE
            cases z3 with
            | false =>
              have e := ST1.out rfl
              go_wp2_with (first
                | (go_at_call 145; refine CL.out.mono ?_; rintro e w1 ⟨B, C, rfl, hF, hB, hb1, hcp⟩; have HB := hide hb1; have HF := hide hF; have f0 := FP.out w1 B hF; have hC1 : ¬ C = 1 := (by omega); clear hF hB hb1)
                | (go_at_call 196; refine (RR2.out _ B C HB.out HF.out hcp).mono ?_; rintro e w2 ⟨rfl, hb2⟩; have HB2 := hide hb2; have J2 := hide (RJ.made (w := w) HI.out.rp hb2 R); clear hb2; dsimp only)
                | (go_at_call 103; refine (IP.out _).mono ?_; rintro e w3 ⟨rfl, rfl⟩)
                | (go_at_call 197; refine (CK.out _ J2.out.rp.rep).mono ?_; rintro e w4 ⟨rfl, hb4⟩; have J4 := hide (J2.out.more hb4); clear hb4; obtain ⟨q0, q1, q2, q3, q4, q5, q6, q7, q8, q9, q10, q11, q12, q13, q14⟩ := J4.out.rc.cells))
              go_ret2
              exact BAD.out e _ J4.out.bel
            | true =>
              go_wp2_with (first
                | (go_at_call 145; refine CL.out.mono ?_; rintro e w1 ⟨B, C, rfl, hF, hB, hb1, hcp⟩; have HB := hide hb1; have HF := hide hF; have f0 := FP.out w1 B hF; have hC1 : ¬ C = 1 := (by omega); clear hF hB hb1)
                | (go_at_call 196; refine (RR2.out _ B C HB.out HF.out hcp).mono ?_; rintro e w2 ⟨rfl, hb2⟩; have HB2 := hide hb2; have J2 := hide (RJ.made (w := w) HI.out.rp hb2 R); clear hb2; dsimp only)
                | (go_at_call 103; refine (IP.out _).mono ?_; rintro e w3 ⟨rfl, rfl⟩)
                | (go_at_call 197; refine (CK.out _ J2.out.rp.rep).mono ?_; rintro e w4 ⟨rfl, hb4⟩; have J4 := hide (J2.out.more hb4); clear hb4; obtain ⟨q0, q1, q2, q3, q4, q5, q6, q7, q8, q9, q10, q11, q12, q13, q14⟩ := J4.out.rc.cells))
              go_at_call 112
              refine (KP.out trivial _ J4.out.rp).mono ?_
              rintro e w5 ⟨rfl, h5, hf5⟩
              have R5 := hide h5
              have F5 := hide hf5
              clear h5 hf5
              dsimp only
              go_wp2
              have N5 := hide (NX.out w5 trivial trivial trivial R5.out (HI.out.fr.trans ((Fr.of_below J4.out.bel).trans F5.out)))
              go_roundw
              case rel => exact ⟨_, _, _, rfl, rfl, N5⟩
              case measure => exact RSZ.out

end Go.Proofs.YtaelaldmibgibaaGreatDoor
