/- The program's netOf. -/
import Derived.Test.YtaelaldmibgibaaGreatDoorU41

set_option linter.unusedVariables false
set_option linter.unusedSimpArgs false

namespace Go.Proofs.YtaelaldmibgibaaGreatDoor
open Go.RowKit Go.Lib Go.Maps

/-- what netOf answers -/
def NAns (A : Option (List DR)) (lo : Nat) (w' : World) (e : Ending) : Prop := match A with
  | none => ∃ v, e = .returned (.tuple #[v, .bool false])
  | some m => ∃ nb pb rbs mbs, e = .returned (.tuple #[.pointer (some ⟨nb, 0, none⟩), .bool true]) ∧ UNet w' nb pb rbs mbs m ∧ lo ≤ pb

set_option maxRecDepth 100000 in
set_option maxHeartbeats 4000000 in
theorem netOf_any (t : ByteArray) (ht : t.size ≤ 10000000) (w : World) (hg : Glob w) :
    Calls Tryz.prog 43 #[.string t] w fun e w' => NAns (netR t) w.heap.size w' e ∧ Below w.heap.size w w' := by
  have US := hide (Unseal_any t ht w hg)
  cases hu : unsealR t with
  | none =>
    have en : netR t = none := by unfold netR; rw [hu]; rfl
    rw [hu] at US
    simp only [Option.isSome_none] at US
    rw [en]
    generalize ofBs ((none : Option Bs).getD []) = bd at *
    clear hg hu en
    go_enter Tryz.func43, Tryz.ntmps43
    go_wp2_with (go_at_call 78; refine US.out.mono ?_; rintro e w1 ⟨rfl, hb1⟩)
    go_ret2
    exact ⟨⟨_, rfl⟩, hb1⟩
  | some b =>
    rw [hu] at US
    simp only [Option.isSome_some, Option.getD_some] at US
    have hbl : b.length ≤ 10000000 := by
      have := (unsealR_iff t b).1 hu
      have h2 := congrArg List.length this.1
      rw [bs_len] at h2
      simp at h2
      omega
    have hln := cut_size 10 b
    have CU : Hid (∀ W, Below w.heap.size w W → Calls Tryz.prog 79 #[.string (ofBs b), .string ⟨#[10]⟩] W fun e w' => (∃ f, e = .returned (.tuple #[.string (ofBs (lineR b)), .string (ofBs (restR b)), .bool f])) ∧ Below w.heap.size w w') := fun W hW => by
      have := cut_any 10 (ofBs b) (by rw [ofBs_size]; exact hbl) W (hg.below hW)
      rw [bs_ofBs] at this
      refine this.mono ?_
      rintro e w' ⟨rfl, q, rfl⟩
      exact ⟨⟨_, rfl⟩, below_drewN hW q⟩
    have BG : Hid (∀ W, Below w.heap.size w W → Calls Tryz.prog 80 #[.string (ofBs (lineR b))] W fun e w' => (match headR (lineR b) with
      | none => e = .returned (.tuple #[.pointer none, .bool false])
      | some n => ∃ nb P, e = .returned (.tuple #[.pointer (some ⟨nb, 0, none⟩), .bool true]) ∧ NU w w' nb P n [] [] []) ∧ Below w.heap.size w w') := fun W hW => by
      have := beginning_any (ofBs (lineR b)) (by rw [ofBs_size]; unfold lineR; omega) W (hg.below hW)
      rw [bs_ofBs] at this
      refine this.mono ?_
      rintro e w' ⟨hA, hb'⟩
      have hb2 := hW.trans (hb'.mono hW.size)
      refine ⟨?_, hb2⟩
      cases hh : headR (lineR b) with
      | none => rw [hh] at hA; exact hA
      | some n =>
        rw [hh] at hA
        obtain ⟨nb, P, e1, e2, e3, e4⟩ := hA
        exact ⟨nb, P.pb, e1, NU.start e2 hb2 (fun k hk => Nat.le_trans hW.size (e3 k hk)) e4⟩
    cases hh : headR (lineR b) with
    | none =>
      have en : netR t = none := by unfold netR; rw [hu]; simp only [Option.bind_some]; rw [hh]; rfl
      rw [en]
      rw [hh] at BG
      generalize ofBs b = bd at *
      generalize ofBs (lineR b) = ls at *
      generalize ofBs (restR b) = rs at *
      clear hg hu en hh
      go_enter Tryz.func43, Tryz.ntmps43
      go_wp2_with (first
        | (go_at_call 78; refine US.out.mono ?_; rintro e w1 ⟨rfl, hb1⟩; have H1 := hide hb1; clear hb1)
        | (go_at_call 79; refine (CU.out _ H1.out).mono ?_; rintro e w2 ⟨⟨f, rfl⟩, hb2⟩; have H2 := hide hb2; clear hb2)
        | (go_at_call 80; refine (BG.out _ H2.out).mono ?_; rintro e w3 ⟨rfl, hb3⟩; have H3 := hide hb3; clear hb3))
      go_ret2
      exact ⟨⟨_, rfl⟩, H3.out⟩
    | some n =>
      obtain ⟨h1, h6, _⟩ := (headR_iff _ n).1 hh
      have en : netR t = (repsR n n 0 (restR b)).bind fun x => if x.1 = [] ∧ x.2.all (inB (cntF x.2)) = true then some x.2 else none := by unfold netR; rw [hu]; simp only [Option.bind_some]; rw [hh]; rfl
      rw [hh] at BG
      have hrl : (ofBs (restR b)).size ≤ 10000000 := by rw [ofBs_size]; unfold restR; omega
      have e0 : repsR n n 0 (restR b) = (repsR n (n - 0) 0 (bs (ofBs (restR b)))).map (fun y => (y.1, ([] : List DR) ++ y.2)) := by
        rw [bs_ofBs, Nat.sub_zero]
        cases repsR n n 0 (restR b) <;> simp
      have GL : Hid (∀ W, Below w.heap.size w W → Glob W) := fun W hW => hg.below hW
      generalize ofBs (lineR b) = ls at *
      generalize hA0 : repsR n n 0 (restR b) = A0 at *
      generalize ofBs b = bd at *
      generalize ofBs (restR b) = rs at *
      generalize netR t = NR at *
      have E0 := hide e0
      have EN := hide en
      clear hg hu hh en e0 hA0
      go_enter Tryz.func43, Tryz.ntmps43
      go_wp2_with (first
        | (go_at_call 78; refine US.out.mono ?_; rintro e w1 ⟨rfl, hb1⟩; have H1 := hide hb1; clear hb1)
        | (go_at_call 79; refine (CU.out _ H1.out).mono ?_; rintro e w2 ⟨⟨f, rfl⟩, hb2⟩; have H2 := hide hb2; clear hb2)
        | (go_at_call 80; refine (BG.out _ H2.out).mono ?_; rintro e w3 ⟨⟨nb, pb, rfl, hN⟩, _⟩; have N3 := hide hN; obtain ⟨cap, hblk⟩ := hN.blk; have c3 : w3.cell? ⟨nb, 0, none⟩ = some (.slice (some ⟨pb, 0, none⟩) n cap) := (by simp [World.cell?, hblk]); clear hN hblk))
      go_loopw [7, 38] (fun tv iv wr => ∃ (i : Nat) (x : ByteArray) (rbs mbs : List Nat) (acc : List DR), i ≤ n ∧ iv = .int .i64 i ∧ tv = .string x ∧ Hid (NU w wr nb pb n rbs mbs acc) ∧ Hid (acc.length = i ∧ x.size ≤ 10000000 ∧ A0 = (repsR n (n - i) i (bs x)).map (fun y => (y.1, acc ++ y.2)) ∧ ∀ d ∈ acc, d.recs.length ≤ 10000000)) (fun _ iv _ => n - (intOf iv).toNat)
      case atStart => exact ⟨0, rs, [], [], [], Nat.zero_le _, rfl, rfl, N3, rfl, hrl, E0.out, fun d hd => by simp at hd⟩
      case round =>
        obtain ⟨i, x, rbs, mbs, acc, hi, rfl, rfl, hN, hE⟩ := hrel
        clear N3 c3 US CU BG E0
        by_cases hlt : i < n
        · have ND : Hid (NU w wr.drew nb pb n rbs mbs acc) := hN.out.more ⟨rfl, rfl, rfl, Nat.le_refl _, fun _ _ => rfl⟩
          have LR := hide (ReadLines_any x hE.out.2.1 i (by omega) n h1 h6 wr.drew (GL.out _ ND.out.bel))
          obtain ⟨cap', hblk⟩ := hN.out.blk
          have c0 : wr.cell? ⟨nb, 0, none⟩ = some (.slice (some ⟨pb, 0, none⟩) n cap') := by simp [World.cell?, hblk]
          have C2 : Hid (∀ w2, Below wr.drew.heap.size wr.drew w2 → w2.cell? ⟨nb, 0, none⟩ = some (.slice (some ⟨pb, 0, none⟩) n cap') ∧ w2.cell? ⟨pb, i, none⟩ = some (cv w2 pb i) ∧ w2.frozen? ⟨pb, i, none⟩ = false ∧ NU w w2 nb pb n rbs mbs acc) := fun w2 hb2 => by
            have N2 := ND.out.more hb2
            refine ⟨?_, cv_eq (N2.here i hlt), N2.fz i, N2⟩
            rw [hb2.cell (p := ⟨nb, 0, none⟩) ND.out.ln]
            exact c0
          have hi0 : (0 : Int) ≤ (i : Int) := by omega
          have hin : (i : Int) < (n : Int) := by omega
          clear hblk
          cases hrp : repR n i (bs x) with
          | none =>
            have ea : A0 = none := by
              rw [hE.out.2.2.1, show n - i = (n - i - 1) + 1 by omega]
              unfold repsR
              rw [hrp]
              rfl
            have eb : NR = none := by rw [EN.out, ea]; rfl
            rw [hrp] at LR
            have PB : Hid (∀ w2, NU w w2 nb pb n rbs mbs acc → NAns NR w.heap.size (w2.setCell ⟨pb, i, none⟩ (.pointer none)) (.returned (.tuple #[.pointer none, .bool false])) ∧ Below w.heap.size w (w2.setCell ⟨pb, i, none⟩ (.pointer none))) := fun w2 hN2 => by
              rw [eb]
              exact ⟨⟨_, rfl⟩, Below.setCells hN2.bel hN2.gp [.pointer none] i⟩
            clear ea eb hrp EN hE
            go_wp2_with fail
            go_region_law (first
              | (go_simp; go_at_call 81; refine LR.out.mono ?_; rintro e w2 ⟨hA, hb2⟩; obtain rfl := hA; obtain ⟨q0, q1, q2, hN2⟩ := C2.out w2 hb2; have N2 := hide hN2; clear hN2 hb2; dsimp only))
            all_goals
              go_wp2
              go_ret2
              exact PB.out w2 N2.out
          | some y =>
            obtain ⟨R, d⟩ := y
            obtain ⟨l1, l2⟩ := repR_len n i h1 h6 _ _ hrp
            simp only at l1 l2
            rw [bs_len] at l1 l2
            rw [hrp] at LR
            have NX : Hid (∀ (w2 : World) (rb mb : Nat), NU w w2 nb pb n rbs mbs acc → Rp w2 rb i (lfn d.com) mb (toE d.recs) → wr.drew.heap.size ≤ rb → wr.drew.heap.size ≤ mb → NU w (w2.setCell ⟨pb, i, none⟩ (.pointer (some ⟨rb, 0, none⟩))) nb pb n (rbs ++ [rb]) (mbs ++ [mb]) (acc ++ [d])) := fun w2 rb mb hN2 hR hr hm => by
              have hp := ND.out.lp
              have := hN2.put (by rw [hE.out.1]; exact hlt) (by rw [hE.out.1]; exact hR) (by omega) (by omega)
              rw [hE.out.1] at this
              exact this
            have EX : Hid ((acc ++ [d]).length = i + 1 ∧ (ofBs R).size ≤ 10000000 ∧ A0 = (repsR n (n - (i + 1)) (i + 1) (bs (ofBs R))).map (fun y => (y.1, (acc ++ [d]) ++ y.2)) ∧ ∀ d' ∈ acc ++ [d], d'.recs.length ≤ 10000000) := by
              obtain ⟨e1, e2, e3, e4⟩ := hE.out
              refine ⟨by simp [e1], by rw [ofBs_size]; omega, ?_, fun d' hd => ?_⟩
              · rw [e3, show n - i = (n - (i + 1)) + 1 by omega]
                conv => lhs; unfold repsR
                rw [hrp, bs_ofBs]
                simp only [Option.bind_some]
                rw [Option.map_map]
                congr 1
                funext y
                simp
              · rcases List.mem_append.1 hd with hd | hd
                · exact e4 d' hd
                · simp only [List.mem_singleton] at hd
                  rw [hd]
                  omega
            clear hrp EN hE l1 l2
            go_wp2_with fail
            go_region_law (first
              | (go_simp; go_at_call 81; refine LR.out.mono ?_; rintro e w2 ⟨⟨rb, mb, rfl, hR, hr1, hm1⟩, hb2⟩; obtain ⟨q0, q1, q2, hN2⟩ := C2.out w2 hb2; have N2 := hide (NX.out w2 rb mb hN2 hR hr1 hm1); clear hN2 hb2 hR hr1 hm1; dsimp only))
            all_goals
              go_wp2
              go_roundw
              case rel => exact ⟨i + 1, _, _, _, _, by omega, by go_num, rfl, N2, EX⟩
              case measure => simp [intOf]; omega
        · have ei : i = n := by omega
          subst ei
          obtain ⟨e1, e2, e3, e4⟩ := hE.out
          have ea : A0 = some (bs x, acc) := by
            rw [e3, Nat.sub_self]
            unfold repsR
            simp
          have UN := hide (hN.out.net e1)
          have IW := hide (isWithinItsCounts_any nb pb rbs mbs acc wr UN.out (by omega) (by omega) (fun d hd => by have := e4 d hd; omega))
          rw [ea] at EN
          have en : NR = if bs x = [] ∧ acc.all (inB (cntF acc)) = true then some acc else none := EN.out
          clear hE e3 ea EN
          by_cases hx : bs x = []
          · have hq : (x.toList == []) = true := by rw [ByteArray.toList_eq]; show (bs x == []) = true; rw [hx]; rfl
            cases hz : acc.all (inB (cntF acc)) with
            | true =>
              have HR : Hid (NR = some acc) := by unfold Hid; rw [en, if_pos ⟨hx, hz⟩]
              rw [hz] at IW
              clear en hx hz
              go_wp2_with (go_at_call 82; refine IW.out.mono ?_; rintro e w6 ⟨rfl, hb6⟩; have H6 := hide hb6; clear hb6)
              go_ret2
              rw [HR.out]
              exact ⟨⟨nb, pb, rbs, mbs, rfl, UN.out.below H6.out, hN.out.gp⟩, hN.out.bel.trans (H6.out.mono hN.out.bel.size)⟩
            | false =>
              have HR : Hid (NR = none) := by unfold Hid; rw [en, if_neg (by rw [hz]; simp)]
              rw [hz] at IW
              clear en hx hz
              go_wp2_with (go_at_call 82; refine IW.out.mono ?_; rintro e w6 ⟨rfl, hb6⟩; have H6 := hide hb6; clear hb6)
              go_ret2
              rw [HR.out]
              exact ⟨⟨_, rfl⟩, hN.out.bel.trans (H6.out.mono hN.out.bel.size)⟩
          · have hq : (x.toList == []) = false := by
              rw [ByteArray.toList_eq]
              show (bs x == []) = false
              simpa using hx
            have HR : Hid (NR = none) := by unfold Hid; rw [en, if_neg (fun q => hx q.1)]
            clear en hx
            go_wp2
            go_ret2
            rw [HR.out]
            exact ⟨⟨_, rfl⟩, hN.out.bel⟩

end Go.Proofs.YtaelaldmibgibaaGreatDoor
