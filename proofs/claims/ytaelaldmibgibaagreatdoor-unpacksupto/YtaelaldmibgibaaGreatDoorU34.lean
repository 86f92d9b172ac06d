/- The document's Unpack. -/
import Derived.Test.YtaelaldmibgibaaGreatDoorU33
import Derived.Deep.RegionLaw

set_option linter.unusedVariables false
set_option linter.unusedSimpArgs false

namespace Go.Proofs.YtaelaldmibgibaaGreatDoor
open Go.RowKit
attribute [local go_sem ↓] stSpot
attribute [local go_sem] run_stSpotMid

set_option maxRecDepth 100000 in
set_option maxHeartbeats 4000000 in
theorem unpack_body (s : ByteArray) (hs : s.size ≤ 10000000) (w : World) (hh : headOk s = true) :
    Calls Tryz.prog 28 #[.string s] w fun e w' => Ver s e ∧ Below w.heap.size w w' := by
  have H0 := hide (Hd.made w s (by omega))
  generalize hx1 : wantS s reunionW (0, false) = x1
  generalize hx2 : numS s x1 = x2
  generalize hx3 : wantS s newl x2 = x3
  have e3 : headS s = x3 := by unfold headS; rw [hx1, hx2, hx3]
  have en : headN s = numVal s x1.1 := by unfold headN; rw [hx1]
  have hA : allS s = repsS s (headN s) (headN s) x3 := by unfold allS; rw [e3]
  unfold headOk at hh
  rw [e3] at hh
  simp only [Bool.and_eq_true, Bool.not_eq_true', decide_eq_true_eq] at hh
  obtain ⟨hno, h1, h6⟩ := hh
  generalize hn : headN s = n at *
  have TX : Hid (textOk s = (!(repsS s n n x3).1.2 && (rest s (repsS s n n x3).1.1 == lastT (bs (s.extract 0 (repsS s n n x3).1.1))))) := by
    unfold Hid textOk headOk
    rw [e3, hn, hA, hno, decide_eq_true h1, decide_eq_true h6]
    rfl
  have AL : Hid ((allS s).2 = (repsS s n n x3).2) := by unfold Hid; rw [hA]
  have HN : Hid (numVal s x1.1 = n) := en.symm
  have d1 : decide ((n : Int) < 1) = false := by simp; omega
  have d2 : decide ((6 : Int) < (n : Int)) = false := by simp; omega
  clear en hA e3 hn
  go_enter Tryz.func28, Tryz.ntmps28
  go_wp2_with (first
    | (go_at_call 26; have q := H3; refine (refNew_ok n _ h1 h6).mono ?_; rintro e w4 ⟨ρ0, S0, rfl, hR0, hI0, hn0, hp0, hlo0, hb0⟩; have U := hide (U0.start H3.out hR0 hn0 hlo0 hb0); have HI := hide hI0; clear hR0 hI0 hlo0 hb0)
    | (go_at_call 50; have q := H2; refine (H2.out.want newl (by decide)).mono ?_; rw [hx3]; rintro e w3 ⟨rfl, h3⟩; have H3 := hide h3; have c2 := h3.rd.c2; rw [hno] at c2; have X3S := hide h3.rd.ha; clear h3 H2)
    | (go_at_call 51; have q := H1; refine (H1.out.num).mono ?_; rw [hx2, HN.out]; rintro e w2 ⟨rfl, h2⟩; have H2 := hide h2; clear h2 H1)
    | (go_at_call 50; refine (H0.out.want reunionW (by decide)).mono ?_; rw [hx1]; rintro e w1 ⟨rfl, h1⟩; have H1 := hide h1; clear h1 H0))
  have hrows : ∀ (r : Nat) y, S0.rows[r]? = some y → y.2 = [] := fun r y hy => by
    have := HI.out.len r y hy
    rw [hp0] at this
    exact List.length_eq_zero_iff.1 this
  have UB : Hid (Ub w w4 s x3 w3.heap.size n 0 ρ0 (fun _ => (0, 0)) S0 [] (.slice none 0 0) (.slice none 0 0) [] []) := ⟨U.out, rfl, fun j a ha => by simp [repsS] at ha, hp0, hrows⟩
  generalize htb : w3.heap.size = tb at *
  clear U HI hrows hn0 hp0 htb H3 c2
  go_loopw [8, 9, 10] (fun nv xv iv wr => ∃ i : Nat, i ≤ n ∧ iv = .int .i64 i ∧ ∃ ρ σ S R, Hid (Ub w wr s x3 tb n i ρ σ S R nv xv (R.map (·.lv)) (R.map (·.ov))) ∧ Hid ((repsS s n i x3).1.2 = false)) (fun _ _ iv _ => n - (intOf iv).toNat)
  case atStart => exact ⟨0, Nat.zero_le _, rfl, _, _, _, [], UB, hno⟩
  case round =>
    obtain ⟨i, hi, rfl, ρ, σ, S, R, hU, hQ⟩ := hrel
    clear UB
    by_cases hlt : i < n
    · obtain ⟨cg, cc, ecv⟩ := hU.out.u.comForm
      go_wp2_with (go_at_call 50; refine (hU.out.u.want replicaW (by decide)).mono ?_; rintro e w5 ⟨rfl, h5⟩; have U5 := hide h5; obtain ⟨k1, ⟨u5, k2⟩, k3⟩ := h5.comCell ecv hlt; clear h5)
      go_region_law (first
        | (go_simp; go_at_call 52; refine (U5.out.drew.time).mono ?_; rintro e w6 ⟨g6, c6, rfl, h6⟩; obtain ⟨m1, ⟨u6, m2⟩, m3⟩ := h6.u.comCell ecv hlt; have U6 := hide h6; clear h6; dsimp only))
      all_goals
        have U7 := hide (U6.out.put cg cc i ecv hlt)
        clear U6 m1 m2 m3 k1 k2 k3 U5
        have hlen6 : R.length < 6 := by have := hU.out.len; omega
        generalize hW : w6.setCell ⟨cg, i, none⟩ (.slice (some ⟨g6, 0, none⟩) n c6) = W at *
        clear hW
        cases hend : (repsS s n (i + 1) x3).1.2 with
        | true =>
          go_wp2_with (first
            | (go_at_call 53; have q := U8; refine (U8.out.records hlen6).mono ?_; rintro e w9 ⟨a1, n1, c1, a2, n2, c2, cs, σ9, rfl, h9⟩; have U9 := hide h9; have rc2 := h9.rd.c2; rw [show (recsS s n (s.size - (wantS s newl (timeS s n (wantS s replicaW (repsS s n i x3).1)).1).1 + 1) (wantS s newl (timeS s n (wantS s replicaW (repsS s n i x3).1)).1) []).1.2 = true from hend] at rc2; clear h9 U8)
            | (go_at_call 50; refine (U7.out.want newl (by decide)).mono ?_; rintro e w8 ⟨rfl, h8⟩; have U8 := hide h8; clear h8 U7))
          go_ret2
          refine ⟨Ver.no (fun hd => ?_), U9.out.bel⟩
          have q1 := reps_no s n x3 (i + 1) (n - (i + 1)) hend
          rw [show i + 1 + (n - (i + 1)) = n by omega] at q1
          have q2 := hd.1
          rw [TX.out, q1] at q2
          cases q2
        | false =>
          go_wp2_with (first
            | (at_builtin; have q := UA; refine app_spots _ rfl (.tmp 81) (.tmp 83) rfl w.heap.size _ _ _ rfl (UA.out.db.ox.alloc _) wA.heap.size a2 n2 c2 rfl (by simp) (by simp; omega) (by have := UA.out.bel.size; simp; omega) ?_; intro gB cB wB hoB hgrB hatB hlB; obtain ⟨σB, hB⟩ := (UA.out.below ((Below.refl _ _).alloc (Nat.le_refl _) _)).pushX _ gB _ cB hoB hgrB hatB; have UB := hide hB; clear hB UA hoB hgrB hatB)
            | (at_builtin; have q := U9; refine app_strs _ rfl (.tmp 77) (.tmp 79) rfl w.heap.size _ _ _ rfl (U9.out.db.on.alloc _) w9.heap.size a1 n1 c1 rfl (by simp) (by simp; omega) (by have := U9.out.bel.size; simp; omega) ?_; intro gA cA wA hoA hgrA hatA hlA; obtain ⟨σA, hA⟩ := (U9.out.below ((Below.refl _ _).alloc (Nat.le_refl _) _)).pushN _ gA _ cA hoA hgrA hatA; have UA := hide hA; clear hA U9 hoA hgrA hatA)
            | (go_at_call 53; have q := U8; refine (U8.out.records hlen6).mono ?_; rintro e w9 ⟨a1, n1, c1, a2, n2, c2, cs, σ9, rfl, h9⟩; have U9 := hide h9; have rc2 := h9.rd.c2; rw [show (recsS s n (s.size - (wantS s newl (timeS s n (wantS s replicaW (repsS s n i x3).1)).1).1 + 1) (wantS s newl (timeS s n (wantS s replicaW (repsS s n i x3).1)).1) []).1.2 = false from hend] at rc2; clear h9 U8)
            | (go_at_call 50; refine (U7.out.want newl (by decide)).mono ?_; rintro e w8 ⟨rfl, h8⟩; have U8 := hide h8; clear h8 U7))
          have V := hU.out.next hlt UB.out
          rw [List.length_map, List.length_map, ← map_lv, ← map_ov] at V
          exact ⟨⟨i + 1, by omega, by go_num, _, _, _, _, V, hend⟩, by simp [intOf]; omega⟩
    · have ei : n = i := by omega
      subst ei
      have r0 := hU.out.u.rd.c0
      have r1 := hU.out.u.rd.c1
      have ra := hU.out.u.rd.ha
      generalize hA : (repsS s n n x3).1.1 = A at *
      have SU : Hid (∀ W : World, Calls Tryz.prog 55 #[.string (s.extract 0 A)] W fun e w' => e = .returned (.int .i64 (sumTo (s.extract 0 A) (s.extract 0 A).size)) ∧ ∃ q, w' = W.drewN q) := fun W => Sum_any _ (by rw [ByteArray.size_extract]; omega) W
      have hsl := sumTo_lt (s.extract 0 A) (s.extract 0 A).size
      have LT : Hid (lastT (bs (s.extract 0 A)) = bs ((⟨#[115, 117, 109, 32]⟩ : ByteArray) ++ decF (sumTo (s.extract 0 A) (s.extract 0 A).size + 1) (sumTo (s.extract 0 A) (s.extract 0 A).size) ++ ⟨#[10]⟩)) := by
        unfold Hid lastT
        rw [bs_append, bs_append, bs_decF _ _ (by omega), sumL_bs, List.append_assoc]
        rfl
      generalize hsm : sumTo (s.extract 0 A) (s.extract 0 A).size = sm at *
      have DE : Hid (∀ W : World, Calls Tryz.prog 54 #[.int .i64 sm] W fun e w' => e = .returned (.string (decF (sm + 1) sm)) ∧ w' = W) := fun W => refDecimal_any (sm + 1) sm W (by omega) (by omega)
      have hdcs : (decF (sm + 1) sm).size ≤ 1000004 := by have := decF_size (sm + 1) sm; omega
      generalize hdc : decF (sm + 1) sm = dc at *
      have BX : Hid (bs (s.extract A s.size) = rest s A) := by
        unfold Hid
        rw [bs_extract, List.take_of_length_le (by rw [rest_len]; omega)]
      cases hcmp : ((s.extract A s.size).toList == ((⟨#[115, 117, 109, 32]⟩ : ByteArray) ++ dc ++ ⟨#[10]⟩).toList) with
      | false =>
        have NO : Hid (¬ docOk s) := fun hd => by
          have q2 := hd.1
          rw [TX.out, LT.out, ← BX.out] at q2
          simp only [Bool.and_eq_true, beq_iff_eq] at q2
          rw [bs_inj q2.2] at hcmp
          simp at hcmp
        go_wp2_with fail
        go_quiet ((first | (go_at_call 55; exact (SU.out _).mono fun _ _ h => ⟨h.1, by obtain ⟨q, e⟩ := h.2; exact ⟨_, e.trans (by first | exact World.drewN_drewN _ _ _ | rfl)⟩⟩) | (go_at_call 54; exact (DE.out _).mono fun _ _ h => ⟨h.1, _, h.2⟩)))
        go_wp2
        go_ret2
        exact ⟨Ver.no NO.out, (hU.out.u.drewN _).bel⟩
      | true =>
        have TY : Hid (textOk s = true) := by
          unfold Hid
          rw [TX.out, hQ.out, LT.out, ← BX.out]
          have e : s.extract A s.size = (⟨#[115, 117, 109, 32]⟩ : ByteArray) ++ dc ++ ⟨#[10]⟩ := (seq_iff _ _).1 hcmp
          rw [e]
          simp
        go_wp2_with fail
        go_quiet ((first | (go_at_call 55; exact (SU.out _).mono fun _ _ h => ⟨h.1, by obtain ⟨q, e⟩ := h.2; exact ⟨_, e.trans (by first | exact World.drewN_drewN _ _ _ | rfl)⟩⟩) | (go_at_call 54; exact (DE.out _).mono fun _ _ h => ⟨h.1, _, h.2⟩)))
        go_wp2_with fail
        have hU2 : Hid (∀ q, U2 w (wr.drewN q) tb n ρ σ S R u8 u9 (fun _ => 0)) := fun q => U2.of (hU.out.u.drewN q) hU.out.len
        have hDI : Hid (DI S R S.coms (fun _ => 0)) := DI.start R hU.out.paths hU.out.rows
        have hp0 : Hid (S.paths.length ≤ 0) := by unfold Hid; rw [hU.out.paths]; exact Nat.le_refl _
        obtain ⟨gn, cn, rfl, _, _⟩ := World.ownsRow.form (hU2.out 0).on (by omega)
        obtain ⟨gx, cx, rfl, _, _⟩ := World.ownsRow.form (hU2.out 0).ox (by omega)
        have hRl := hU.out.len
        have HM := hide hU.out.rd
        generalize hcl : S.coms = cl at *
        have RB := hide (rb_of hs hRl HM.out)
        have x3s : x3.1 ≤ s.size := X3S.out
        have RF : Hid (∀ (q : Nat) a, (repsS s n n x3).2[q]? = some a → (∀ y ∈ a.2, y.2.by_ < n) ∧ Sorted (a.2.map (·.1))) := fun q a ha => reps_facts s n n h1 x3 x3s hQ.out q a ha
        clear hU SU DE LT BX hcmp r0 r1 ra hdcs hsl
        rw [← tauD_zero R] at hU2 hDI
        go_loopw [14] (fun iv wl => ∃ i : Nat, i ≤ n ∧ iv = .int .i64 i ∧ ∃ ρ σ S, Hid (U2 w wl tb n ρ σ S R (.slice (some ⟨gn, 0, none⟩) n cn) (.slice (some ⟨gx, 0, none⟩) n cx) (tauD R i 0)) ∧ Hid (DI S R cl (tauD R i 0)) ∧ Hid (S.paths.length ≤ pB i 0)) (fun iv _ => n - (intOf iv).toNat)
        case atStart => exact ⟨0, Nat.zero_le _, rfl, ρ, σ, S, hU2.out _, hDI, Nat.le_trans hp0.out (Nat.zero_le _)⟩
        case round =>
          obtain ⟨i, hi, rfl, ρ1, σ1, S1, hV, hDV, hPV⟩ := hrel
          clear hU2 hDI hp0
          by_cases hin : i < n
          · obtain ⟨r, hr⟩ : ∃ r, R[i]? = some r := ⟨R[i], List.getElem?_eq_getElem (by omega)⟩
            obtain ⟨al, cal, elv⟩ := hV.out.lvForm hr
            have hrl := RB.out i r hr
            obtain ⟨ar, _, hps, hrs, hrl⟩ := hrl
            go_wp2_with fail
            go_loopw [15, 16] (fun kv _ wm => ∃ k : Nat, k ≤ r.ps.length ∧ kv = .int .i64 k ∧ ∃ ρ σ S, Hid (U2 w wm tb n ρ σ S R (.slice (some ⟨gn, 0, none⟩) n cn) (.slice (some ⟨gx, 0, none⟩) n cx) (tauD R i k)) ∧ Hid (DI S R cl (tauD R i k)) ∧ Hid (S.paths.length ≤ pB i k)) (fun kv _ _ => r.ps.length - (intOf kv).toNat)
            case atStart => exact ⟨0, Nat.zero_le _, rfl, ρ1, σ1, S1, hV, hDV, hPV⟩
            case round =>
              obtain ⟨k, hk, rfl, ρ2, σ2, S2, hW, hDW, hPW⟩ := hrel
              clear hV hDV hPV
              obtain ⟨gn', cn', en, nc⟩ := hW.out.nameRow hr
              cases en
              rw [elv] at nc
              by_cases hkl : k < r.ps.length
              · obtain ⟨nm, hnm⟩ : ∃ nm, r.ps[k]? = some nm := ⟨r.ps[k], List.getElem?_eq_getElem hkl⟩
                have hrlen : r.rs.length = r.ps.length := by rw [hps, hrs, List.length_map, List.length_map]
                have hclen : r.cs.length = r.ps.length := by rw [(hW.out.rep i r hr).len, hrlen]
                obtain ⟨c, hc⟩ : ∃ c, r.cs[k]? = some c := ⟨r.cs[k]'(by omega), List.getElem?_eq_getElem (by omega)⟩
                obtain ⟨x, hx⟩ : ∃ x, r.rs[k]? = some x := ⟨r.rs[k]'(by omega), List.getElem?_eq_getElem (by omega)⟩
                have hci := hide ((hW.out.rep i r hr).is k c x hc hx)
                obtain ⟨gl, cl', el, nl⟩ := hW.out.name hr hnm
                rw [elv] at el
                obtain ⟨rfl, rfl⟩ : al = some ⟨gl, 0, none⟩ ∧ cal = cl' := by simpa using el
                have hm8 : S2.paths.length ≤ 100000000 := pB_le hPW.out (by omega) (by omega)
                have hps' := hide hps
                have hrs' := hide hrs
                clear el hps hrs hrlen
                go_wp2_with (go_at_call 56; refine (hW.out.place hDW.out nm hm8).mono ?_; rintro e w5 ⟨ρ3, S3, p, rfl, h3, hd3, hp3, hl3, _⟩; have H3 := hide h3; have D3 := hide hd3; have P3 := hide hp3; obtain ⟨sg, sc, g, cap, l, o, es, k3, ks, hrow, ho, hl, hth⟩ := h3.row hd3 hin hp3; obtain ⟨gx', cx', ex, kx⟩ := h3.spotRow hr; cases ex; obtain ⟨go, co, eo, kc⟩ := h3.spot hr hc; rw [eo] at kx; clear h3 hd3)
                have rc := (H3.out.rep i r hr).ok k c (by rw [tauD_at]; exact Nat.le_refl _) hc
                have rcl : 0 < c.ch.length ∧ 0 < c.tm.length := by rw [rc.chl, rc.tml]; omega
                obtain ⟨gc, cc, ec, _, _⟩ := World.ownsRow.form rc.ch rcl.1
                obtain ⟨gt, ct, et, _, _⟩ := World.ownsRow.form rc.tm rcl.2
                have PU := hide (H3.out.drew.put hr (c := c) (by rw [tauD_at]; exact hc) hin hrow ho)
                have DU := hide (D3.out.put hr (by rw [tauD_at]; exact hnm) (by rw [tauD_at]; exact hx) hci.out (v2 := .slice (some ⟨g, 0, none⟩) l.length cap) hrow P3.out)
                rw [tauD_put] at PU DU
                have c0 := kc 0 (by omega)
                have c1 := kc 1 (by omega)
                have c2 := kc 2 (by omega)
                have c3 := kc 3 (by omega)
                have c4 := kc 4 (by omega)
                have c5 := kc 5 (by omega)
                obtain ⟨z0, z1, z2, z3, z4, z5, z6, z7⟩ := c
                dsimp only at ec et
                subst ec et
                dsimp only [SP.cells, List.getElem?_cons_zero, List.getElem?_cons_succ, Nat.add_zero] at c0 c1 c2 c3 c4 c5 PU
                have hpl : p < l.length := by rw [hl]; exact (List.getElem?_eq_some_iff.1 P3.out).1
                have hl8 : l.length ≤ 100000001 := by rw [hl]; omega
                have HL := hide hl
                have hth' : w5.drew.there g (p * 6) 6 := hth
                clear kc rc rcl nl nc H3 D3 hW hDW hci hl
                go_region_law (fail)
                all_goals
                  go_wp2
                  obtain ⟨ρ4, σ4, h4⟩ := PU.out
                  exact ⟨⟨k + 1, by omega, by go_num, ρ4, σ4, _, h4, DU, pB_step hl3 hPW.out⟩, by simp [intOf]; omega⟩
              · have ek : k = r.ps.length := by omega
                subst ek
                have T1 := tauD_next R i r hr
                rw [T1] at hW hDW
                clear T1
                go_wp2
                exact ⟨⟨i + 1, by omega, by go_num, ρ2, σ2, S2, hW, hDW, pB_next hPW.out hrl⟩, by simp [intOf]; omega⟩
          · have ein : n = i := by omega
            subst ein
            have CN : Hid (cnts S1 n = cntsM (repsS s n n x3).2) := cnts_of hDV.out.coms HM.out
            have hP8 : S1.paths.length ≤ 100000000 := pB_all hPV.out h6
            have HV0 := hide (fun q => hV.out.drewN q)
            clear hPV
            go_wp2_with fail
            go_loopw [17] (fun iv wl => ∃ i : Nat, i ≤ n ∧ iv = .int .i64 i ∧ Hid (U2 w wl tb n ρ1 σ1 S1 R (.slice (some ⟨gn, 0, none⟩) n cn) (.slice (some ⟨gx, 0, none⟩) n cx) (tauD R n 0)) ∧ Hid (∀ (q : Nat) a, q < i → (repsS s n n x3).2[q]? = some a → ∀ y ∈ a.2, mayR q (cntsM (repsS s n n x3).2) a.1 y.2 = true)) (fun iv _ => n - (intOf iv).toNat)
            case atStart => exact ⟨0, Nat.zero_le _, rfl, hV, fun q a hq => absurd hq (by omega)⟩
            case round =>
              obtain ⟨i, hi, rfl, hE, hOk⟩ := hrel
              clear hV HV0
              by_cases hin : i < n
              · obtain ⟨r, hr⟩ : ∃ r, R[i]? = some r := ⟨R[i], List.getElem?_eq_getElem (by omega)⟩
                obtain ⟨al, cal, elv⟩ := hE.out.lvForm hr
                obtain ⟨ar, har, hps, hrs, hrl⟩ := RB.out i r hr
                have hps' := hide hps
                have hrs' := hide hrs
                have har' := hide har
                clear hps hrs har
                go_wp2_with fail
                go_loopw [18, 19, 20] (fun kv _ _ wm => ∃ k : Nat, k ≤ r.ps.length ∧ kv = .int .i64 k ∧ Hid (U2 w wm tb n ρ1 σ1 S1 R (.slice (some ⟨gn, 0, none⟩) n cn) (.slice (some ⟨gx, 0, none⟩) n cx) (tauD R n 0)) ∧ Hid (∀ (j : Nat) x, j < k → r.rs[j]? = some x → mayR i (cntsM (repsS s n n x3).2) ar.1 x = true)) (fun kv _ _ _ => r.ps.length - (intOf kv).toNat)
                case atStart => exact ⟨0, Nat.zero_le _, rfl, hE, fun j x hj => absurd hj (by omega)⟩
                case round =>
                  obtain ⟨k, hk, rfl, hW, hOj⟩ := hrel
                  clear hE
                  obtain ⟨gn', cn', en, nc⟩ := hW.out.nameRow hr
                  cases en
                  rw [elv] at nc
                  by_cases hkl : k < r.ps.length
                  · obtain ⟨nm, hnm⟩ : ∃ nm, r.ps[k]? = some nm := ⟨r.ps[k], List.getElem?_eq_getElem hkl⟩
                    have hrlen : r.rs.length = r.ps.length := by rw [hps'.out, hrs'.out, List.length_map, List.length_map]
                    obtain ⟨x, hx⟩ : ∃ x, r.rs[k]? = some x := ⟨r.rs[k]'(by omega), List.getElem?_eq_getElem (by omega)⟩
                    obtain ⟨gl, cl', el, nl⟩ := hW.out.name hr hnm
                    rw [elv] at el
                    obtain ⟨rfl, rfl⟩ : al = some ⟨gl, 0, none⟩ ∧ cal = cl' := by simpa using el
                    have htau : k < tauD R n 0 i := by unfold tauD; rw [if_pos hin, hr]; exact hkl
                    have hmem : nm ∈ S1.paths := hDV.out.has i r k nm hr htau hnm
                    have MAY : Hid (∀ (p : Nat) (W : World), S1.paths[p]? = some nm → U2 w W tb n ρ1 σ1 S1 R (.slice (some ⟨gn, 0, none⟩) n cn) (.slice (some ⟨gx, 0, none⟩) n cx) (tauD R n 0) → Calls Tryz.prog 57 #[.pointer (some ⟨tb, 0, none⟩), .int .i64 i, .int .i64 p] W fun e w' => e = .returned (.bool (mayR i (cntsM (repsS s n n x3).2) ar.1 x)) ∧ Below W.heap.size W w') := fun p W hp hU => by
                      obtain ⟨_, _, g, cap, l, o, _, _, _, hrow, ho, _, _⟩ := hU.row hDV.out hin hp
                      have hf := RF.out i ar har'.out
                      obtain ⟨x', hx', hso⟩ := hDV.out.spot hr (by rw [hps'.out]; exact hf.2) htau hnm hrow hp ho
                      rw [hx] at hx'
                      cases hx'
                      obtain ⟨_, cw, _, _, _, hcw⟩ := HM.out i ar har'.out
                      have hby : 0 ≤ o.by_ ∧ o.by_ < S1.n := by
                        rw [hso.by_, hU.sn]
                        have hxm : x ∈ ar.2.map (·.2) := by rw [← hrs'.out]; exact List.mem_of_getElem? hx
                        obtain ⟨y, hy, rfl⟩ := List.mem_map.1 hxm
                        have := hf.1 y hy
                        omega
                      have M := may_any tb i p ρ1 S1 W hU.net (by rw [hU.sn]; exact hin) _ l hrow o ho cw ar.1 (by rw [hDV.out.coms]; exact hcw) hby
                      rw [mayB_is hso, hU.sn, CN.out] at M
                      exact M
                    clear el hrlen htau
                    cases hb : mayR i (cntsM (repsS s n n x3).2) ar.1 x with
                    | true =>
                      rw [hb] at MAY
                      go_wp2_with (first
                        | (go_at_call 57; have q := P3; refine (MAY.out p _ P3.out hW.out).mono ?_; rintro e w6 ⟨rfl, hb6⟩; have H6 := hide (hW.out.below hb6); clear hb6)
                        | (go_at_call 56; refine (hW.out.place hDV.out nm hP8).mono ?_; rintro e w5 ⟨ρ3, S3, p, rfl, _, _, hp3, _, hsame⟩; obtain ⟨rfl, rfl, rfl⟩ := hsame hmem; have P3 := hide hp3; clear hp3 hsame))
                      refine ⟨⟨k + 1, by omega, by go_num, H6, fun j x' hj hx' => ?_⟩, by simp [intOf]; omega⟩
                      rcases Nat.lt_or_ge j k with hjk | hjk
                      · exact hOj.out j x' hjk hx'
                      · have : j = k := by omega
                        subst this
                        rw [hx] at hx'
                        cases hx'
                        exact hb
                    | false =>
                      rw [hb] at MAY
                      go_wp2_with (first
                        | (go_at_call 57; have q := P3; refine (MAY.out p _ P3.out hW.out).mono ?_; rintro e w6 ⟨rfl, hb6⟩; have H6 := hide (hW.out.below hb6); clear hb6)
                        | (go_at_call 56; refine (hW.out.place hDV.out nm hP8).mono ?_; rintro e w5 ⟨ρ3, S3, p, rfl, _, _, hp3, _, hsame⟩; obtain ⟨rfl, rfl, rfl⟩ := hsame hmem; have P3 := hide hp3; clear hp3 hsame))
                      go_ret2
                      refine ⟨Ver.no (fun hd => ?_), H6.out.bel⟩
                      have hxm : x ∈ ar.2.map (·.2) := by rw [← hrs'.out]; exact List.mem_of_getElem? hx
                      obtain ⟨y, hy, rfl⟩ := List.mem_map.1 hxm
                      have q1 := hd.2.1
                      rw [AL.out] at q1
                      rw [q1 i ar har'.out y hy] at hb
                      cases hb
                  · have ek : k = r.ps.length := by omega
                    subst ek
                    go_wp2
                    refine ⟨⟨i + 1, by omega, by go_num, hW, fun q a hq ha y hy => ?_⟩, by simp [intOf]; omega⟩
                    rcases Nat.lt_or_ge q i with hqi | hqi
                    · exact hOk.out q a hqi ha y hy
                    · have : q = i := by omega
                      subst this
                      rw [har'.out] at ha
                      cases ha
                      obtain ⟨j, hj⟩ := List.getElem?_of_mem hy
                      have hjl := (List.getElem?_eq_some_iff.1 hj).1
                      refine hOj.out j y.2 (by rw [hps'.out, List.length_map]; exact hjl) ?_
                      rw [hrs'.out, List.getElem?_map, hj]
                      rfl
              · have ein : n = i := by omega
                subst ein
                have HO := hide (fun q => hE.out.drewN q)
                go_wp2_with fail
                go_loopw [21] (fun iv wl => ∃ i : Nat, i ≤ n ∧ iv = .int .i64 i ∧ Hid (U2 w wl tb n ρ1 σ1 S1 R (.slice (some ⟨gn, 0, none⟩) n cn) (.slice (some ⟨gx, 0, none⟩) n cx) (tauD R n 0)) ∧ Hid (∀ (q : Nat) a, q < i → (repsS s n n x3).2[q]? = some a → wIn a.1 (cntsM (repsS s n n x3).2) ∧ (a.2.filter (·.2.there)).length ≤ 20)) (fun iv _ => n - (intOf iv).toNat)
                case atStart => exact ⟨0, Nat.zero_le _, rfl, hE, fun q a hq => absurd hq (by omega)⟩
                case round =>
                  obtain ⟨i, hi, rfl, hG, hOr⟩ := hrel
                  clear hE HO
                  by_cases hin : i < n
                  · obtain ⟨r, hr⟩ : ∃ r, R[i]? = some r := ⟨R[i], List.getElem?_eq_getElem (by omega)⟩
                    obtain ⟨ar, har, hps, hrs, hrl⟩ := RB.out i r hr
                    obtain ⟨_, cw, _, _, _, hcw⟩ := HM.out i ar har
                    have hsn := hG.out.sn
                    obtain ⟨cg, cc, g, cap, l, ec, hc, hx, hl, _, _, _, _, _, _⟩ := hG.out.net.common i (by rw [hsn]; exact hin)
                    have h2 := hG.out.net.c2
                    rw [ec] at h2
                    rw [hsn] at h2 hc hl
                    have hxc := hx
                    rw [hDV.out.coms, hcw, hsn] at hxc
                    obtain ⟨rfl, rfl⟩ : cw = .slice (some ⟨g, 0, none⟩) n cap ∧ ar.1 = l := by simpa using hxc
                    have CT : Hid (∀ W : World, U2 w W tb n ρ1 σ1 S1 R (.slice (some ⟨gn, 0, none⟩) n cn) (.slice (some ⟨gx, 0, none⟩) n cx) (tauD R n 0) → Calls Tryz.prog 59 #[.pointer (some ⟨tb, 0, none⟩)] W fun e w' => ∃ g2 c2, e = .returned (.slice (some ⟨g2, 0, none⟩) n c2) ∧ U2 w w' tb n ρ1 σ1 S1 R (.slice (some ⟨gn, 0, none⟩) n cn) (.slice (some ⟨gx, 0, none⟩) n cx) (tauD R n 0) ∧ intRow w' (.slice (some ⟨g2, 0, none⟩) n c2) (cntsM (repsS s n n x3).2)) := fun W hW => by
                      refine (counts_any tb ρ1 S1 W hW.net).mono ?_
                      rintro e w' ⟨v, rfl, ho, hb⟩
                      rw [hW.sn] at ho
                      obtain ⟨g2, c2, rfl, _, _⟩ := World.ownsRow.form ho (by omega)
                      refine ⟨g2, c2, rfl, hW.below hb, ?_⟩
                      rw [← CN.out]
                      unfold intRow
                      rw [cnts_len]
                      exact ownsRow_base ho (fun _ _ => Nat.zero_le _)
                    have WI : Hid (∀ (W : World) (g2 c2 : Nat), U2 w W tb n ρ1 σ1 S1 R (.slice (some ⟨gn, 0, none⟩) n cn) (.slice (some ⟨gx, 0, none⟩) n cx) (tauD R n 0) → intRow W (.slice (some ⟨g2, 0, none⟩) n c2) (cntsM (repsS s n n x3).2) → Calls Tryz.prog 58 #[.slice (some ⟨g, 0, none⟩) n cap, .slice (some ⟨g2, 0, none⟩) n c2] W fun e w' => e = .returned (.bool (wInD ar.1 (cntsM (repsS s n n x3).2))) ∧ ∃ nq, w' = W.drewN nq) := fun W g2 c2 hW hi2 => by
                      have q := (hW.net.com i _ hx).1
                      rw [hsn] at q
                      exact within_any _ _ _ _ W q hi2 (by rw [hl, ← CN.out, cnts_len]) (by omega) (by omega)
                    have FI : Hid (∀ W : World, U2 w W tb n ρ1 σ1 S1 R (.slice (some ⟨gn, 0, none⟩) n cn) (.slice (some ⟨gx, 0, none⟩) n cx) (tauD R n 0) → Calls Tryz.prog 60 #[.pointer (some ⟨tb, 0, none⟩), .int .i64 i] W fun e w' => e = .returned (.int .i64 ((ar.2.filter (·.2.there)).length : Nat)) ∧ w' = W) := fun W hW => by
                      refine (files_any tb i ρ1 S1 W hW.net (by rw [hW.sn]; exact hin)).mono ?_
                      rintro e w' ⟨v, l, hrow, rfl, rfl⟩
                      have hf := hDV.out.files hr (by rw [hps]; exact (RF.out i ar har).2) (by unfold tauD; rw [if_pos hin, hr]; rfl) (by rw [hps, hrs, List.length_map, List.length_map]) hrow
                      rw [hf, hrs, List.filter_map, List.length_map]
                      exact ⟨rfl, rfl⟩
                    have CE : Hid (∀ W : World, U2 w W tb n ρ1 σ1 S1 R (.slice (some ⟨gn, 0, none⟩) n cn) (.slice (some ⟨gx, 0, none⟩) n cx) (tauD R n 0) → W.cell? ⟨tb, 2, none⟩ = some (.slice (some ⟨cg, 0, none⟩) n cc) ∧ W.cell? ⟨cg, i, none⟩ = some (.slice (some ⟨g, 0, none⟩) n cap)) := fun W hW => by
                      obtain ⟨cg', cc', g', cap', l', ec', hc', hx', _⟩ := hW.net.common i (by rw [hsn]; exact hin)
                      have k2 := hW.net.c2
                      rw [ec'] at k2
                      rw [ec, hsn] at ec'
                      rw [hx] at hx'
                      simp at ec' hx'
                      obtain ⟨rfl, rfl⟩ := ec'
                      obtain ⟨⟨rfl, rfl⟩, _⟩ := hx'
                      rw [hsn] at k2 hc'
                      exact ⟨k2, hc'⟩
                    have hfl : (ar.2.filter (·.2.there)).length ≤ 10000001 := by
                      have := List.length_filter_le (fun y : ByteArray × SpR => y.2.there) ar.2
                      rw [hps, List.length_map] at hrl
                      omega
                    have har' := hide har
                    have WN : Hid (wIn ar.1 (cntsM (repsS s n n x3).2) → (ar.2.filter (·.2.there)).length ≤ 20 → ∀ (q : Nat) a, q < i + 1 → (repsS s n n x3).2[q]? = some a → wIn a.1 (cntsM (repsS s n n x3).2) ∧ (a.2.filter (·.2.there)).length ≤ 20) := fun h1 h2 q a hq ha => by
                      rcases Nat.lt_or_ge q i with hqi | hqi
                      · exact hOr.out q a hqi ha
                      · have : q = i := by omega
                        subst this
                        rw [har] at ha
                        cases ha
                        exact ⟨h1, h2⟩
                    have NN : Hid (¬ (wIn ar.1 (cntsM (repsS s n n x3).2) ∧ (ar.2.filter (·.2.there)).length ≤ 20) → ¬ docOk s) := fun h1 hd => by
                      have q1 := hd.2.2
                      rw [AL.out] at q1
                      exact h1 (q1 i ar har)
                    clear har hps hrs hx hxc hcw hOr
                    generalize hF : (ar.2.filter (·.2.there)).length = F at *
                    clear hF
                    by_cases hwi : wIn ar.1 (cntsM (repsS s n n x3).2)
                    · have dw : wInD ar.1 (cntsM (repsS s n n x3).2) = true := wInD_true hwi
                      rw [dw] at WI
                      by_cases hF : F ≤ 20
                      · have WN' := hide (WN.out hwi hF)
                        have d20 : decide ((20 : Int) < (F : Int)) = false := by simp; omega
                        clear WN NN hwi
                        go_wp2_with fail
                        go_region_law (first
                          | (go_simp; go_at_call 59; refine (CT.out _ (by first | exact hG.out.drew | exact hG.out)).mono ?_; rintro e w5 ⟨g2, c2, rfl, hG5, hi5⟩; have G5 := hide hG5; have I5 := hide hi5; obtain ⟨k2, kc⟩ := CE.out w5 hG5; clear hG5 hi5; dsimp only)
                          | (go_simp; go_at_call 58; refine (WI.out _ g2 c2 G5.out I5.out).mono ?_; rintro e w6 ⟨rfl, nq6, rfl⟩; have G6 := hide (fun q => G5.out.drewN q); dsimp only))
                        all_goals
                          go_wp2_with (go_at_call 60; refine (FI.out _ (G6.out _)).mono ?_; rintro e w7 ⟨rfl, rfl⟩)
                          exact ⟨⟨i + 1, by omega, by go_num, G6.out _, WN'⟩, by simp [intOf]; omega⟩
                      · have hND := hide (NN.out (fun q => hF q.2))
                        have d20 : decide ((20 : Int) < (F : Int)) = true := by simp; omega
                        clear WN NN hwi
                        go_wp2_with fail
                        go_region_law (first
                          | (go_simp; go_at_call 59; refine (CT.out _ (by first | exact hG.out.drew | exact hG.out)).mono ?_; rintro e w5 ⟨g2, c2, rfl, hG5, hi5⟩; have G5 := hide hG5; have I5 := hide hi5; obtain ⟨k2, kc⟩ := CE.out w5 hG5; clear hG5 hi5; dsimp only)
                          | (go_simp; go_at_call 58; refine (WI.out _ g2 c2 G5.out I5.out).mono ?_; rintro e w6 ⟨rfl, nq6, rfl⟩; have G6 := hide (fun q => G5.out.drewN q); dsimp only))
                        all_goals
                          go_wp2_with (go_at_call 60; refine (FI.out _ (G6.out _)).mono ?_; rintro e w7 ⟨rfl, rfl⟩)
                          go_ret2
                          exact ⟨Ver.no hND.out, (G6.out _).bel⟩
                    · have dw : wInD ar.1 (cntsM (repsS s n n x3).2) = false := wInD_false hwi
                      rw [dw] at WI
                      go_wp2_with fail
                      go_region_law (first
                        | (go_simp; go_at_call 59; refine (CT.out _ (by first | exact hG.out.drew | exact hG.out)).mono ?_; rintro e w5 ⟨g2, c2, rfl, hG5, hi5⟩; have G5 := hide hG5; have I5 := hide hi5; obtain ⟨k2, kc⟩ := CE.out w5 hG5; clear hG5 hi5; dsimp only)
                        | (go_simp; go_at_call 58; refine (WI.out _ g2 c2 G5.out I5.out).mono ?_; rintro e w6 ⟨rfl, nq6, rfl⟩; have G6 := hide (fun q => G5.out.drewN q); dsimp only))
                      all_goals
                        go_wp2_with fail
                        go_ret2
                        exact ⟨Ver.no (NN.out (fun q => hwi q.1)), by first | exact (G6.out _).bel | (rw [World.drewN_drewN]; exact (G6.out _).bel)⟩
                  · have ein : n = i := by omega
                    subst ein
                    have hD : docOk s := by
                      refine ⟨TY.out, ?_, ?_⟩
                      · rw [AL.out]
                        exact fun q a ha => hOk.out q a (by have := (List.getElem?_eq_some_iff.1 ha).1; rw [repsS_len] at this; exact this) ha
                      · rw [AL.out]
                        exact fun q a ha => hOr.out q a (by have := (List.getElem?_eq_some_iff.1 ha).1; rw [repsS_len] at this; exact this) ha
                    go_wp2_with fail
                    go_ret2
                    exact ⟨Ver.yes hD tb, hG.out.bel⟩

end Go.Proofs.YtaelaldmibgibaaGreatDoor
