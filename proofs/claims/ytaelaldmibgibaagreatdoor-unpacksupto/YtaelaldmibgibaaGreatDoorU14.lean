/- The document's text: what stands behind a path (spot): a file. -/
import Derived.Test.YtaelaldmibgibaaGreatDoorU13

set_option linter.unusedVariables false
set_option linter.unusedSimpArgs false

namespace Go.Proofs.YtaelaldmibgibaaGreatDoor
open Go.RowKit
attribute [local go_sem ↓] stSpot
attribute [local go_sem] run_stSpot

theorem bs_inj' {p q : ByteArray} (h : p.data.toList = q.data.toList) : p = q := by
  obtain ⟨⟨l⟩⟩ := p
  obtain ⟨⟨m⟩⟩ := q
  have : l = m := h
  rw [this]
theorem conv1 (w : World) (z : Int) (k : Nat) (hz : z = k) (hk : k < 256) : (convert 53 9 (.slice (some ⟨w.heap.size, 0, none⟩) 1 1)).run Tryz.prog (w.alloc (.cells #[.int .u8 z] 5)) = .ok (.string ⟨#[UInt8.ofNat k]⟩) (w.alloc (.cells #[.int .u8 z] 5)) := by
  refine run_convert_bytes_back (P := Tryz.prog) _ 53 9 5 ⟨w.heap.size, 0, none⟩ 1 [UInt8.ofNat k] Tryz.underlying53 Tryz.underlying5 Tryz.underlying9 (fun j hj => ?_)
  have : j = 0 := by simpa using hj
  subst this
  have e : (UInt8.ofNat k).toNat = k := by rw [UInt8.toNat_ofNat']; omega
  have q : (w.alloc (.cells #[.int .u8 z] 5)).heap[w.heap.size]? = some (.cells #[.int .u8 z] 5 (0, 0)) := heap_alloc_new _ _
  show World.cell? _ (⟨w.heap.size, 0, none⟩ : Addr) = _
  simp only [World.cell?, q, List.getElem_cons_zero, e]
  rw [hz]
  rfl

theorem want_true (s p : ByteArray) (a : Nat) : wantS s p (a, true) = (a, true) := by
  have h : hasAt s a true p = false := by unfold hasAt; simp
  unfold wantS
  simp only [h, passed_no h]
  rfl

set_option maxRecDepth 100000 in
set_option maxHeartbeats 4000000 in
theorem spot_in (b : Nat) (s : ByteArray) (x : Nat × Bool) (n : Nat) (h1 : 1 ≤ n) (h6 : n ≤ 6) (w : World) (h : Rd w b s x.1 x.2) (x1 y z1 z2 z3 z4 z5 t : Nat × Bool) (T1 T2 : (Nat × Bool) × List Int) (hx1 : wantS s blank x = x1) (hx2 : timeS s n x1 = T1) (hy : wantS s blank T1.1 = y)
    (hh : hasAt s y.1 y.2 dashNl = false) (hn : y.2 = false) (hz1 : numS s y = z1) (hz2 : (z1.1, z1.2 || decide (n ≤ numVal s y.1)) = z2) (hz3 : wantS s colon z2 = z3) (hz4 : numS s z3 = z4) (hz5 : wantS s blank z4 = z5) (hT2 : timeS s n z5 = T2) (ht : wantS s blankEq T2.1 = t) (hin : numVal s y.1 < n) :
    Calls Tryz.prog 101 #[.pointer (some ⟨b, 0, none⟩), .int .i64 n] w fun e w' => ∃ c : SP, e = .returned (.agg c.cells.toArray) ∧ Sp w w' b s c ⟨wantS s newl (spotHex s t).1, true, (spotHex s t).2, numVal s y.1, numVal s z3.1, T2.2, T1.2⟩ := by
  have hsz := size_Spot
  have HB : Hid (∀ w1 g cap, _ → _ → Sx _ _ _ _ _ _ _ _) := fun w1 g cap ho hb1 => Sx.begin (n := n) (g := g) (cap := cap) (w1 := w1) h ho hb1
  have HL : Hid (0 < T1.2.length) := by unfold Hid; rw [← hx2, timeS_len]; omega
  have HL2 : Hid (0 < T2.2.length) := by unfold Hid; rw [← hT2, timeS_len]; omega
  have hst : (passed s y.1 y.2 dashNl, y.2) = y := by rw [passed_no hh]
  have hz2' : z1 = z2 := by rw [← hz2, decide_eq_false (by omega : ¬ n ≤ numVal s y.1), Bool.or_false]
  have dn : decide ((n : Int) ≤ (numVal s y.1 : Int)) = false := by simp; omega
  clear h
  go_enter Tryz.func101, Tryz.ntmps101
  go_wp2_with (first
    | (go_at_call 50; have q := S10r; have S10 := S10r.out.putCh; refine (S10.want blankEq (by decide)).mono ?_; rw [ht]; rintro e w11 ⟨rfl, h11⟩; have S11 := hide h11; clear h11 S10r)
    | (go_at_call 52; have q := S9; refine (S9.out.time n h6).mono ?_; rw [hT2]; rintro e w10 ⟨v, rfl, h10⟩; obtain ⟨g10, c10, rfl, _, _⟩ := World.ownsRow.form h10.own HL2.out; have k4 := h10.sx.cells6.2.2.2.2.1; have f4 := h10.sx.fz 4; have S10r := hide h10; clear h10 S9)
    | (go_at_call 50; have q := S8; refine ((S8.out.putNum _).want blank (by decide)).mono ?_; rw [hz5]; rintro e w9 ⟨rfl, h9⟩; have S9 := hide h9; clear h9 S8)
    | (go_at_call 51; have q := S7; refine (S7.out.num).mono ?_; rw [hz4]; rintro e w8 ⟨rfl, h8⟩; have k3 := h8.cells6.2.2.2.1; have f3 := h8.fz 3; have S8 := hide h8; clear h8 S7)
    | (go_at_call 50; have q := S6; refine ((S6.out.putBy _).want colon (by decide)).mono ?_; rw [hz2', hz3]; rintro e w7 ⟨rfl, h7⟩; have S7 := hide h7; clear h7 S6)
    | (go_at_call 51; have q := S5; refine ((S5.out.putThere true).num).mono ?_; rw [hz1]; rintro e w6 ⟨rfl, h6'⟩; have k2 := h6'.cells6.2.2.1; have f2 := h6'.fz 2; have S6 := hide h6'; clear h6' S5)
    | (go_at_call 98; have q := S4; refine (S4.out.is dashNl (by decide)).mono ?_; rw [hh, hst]; rintro e w5 ⟨rfl, h5⟩; have S5 := hide h5; have c2 := h5.rd.c2; rw [hn] at c2; have k0 := h5.cells6.1; have f0 := h5.fz 0; clear h5 S4)
    | (go_at_call 50; have q := S3r; have S3 := S3r.out.putTm; refine (S3.want blank (by decide)).mono ?_; rw [hy]; rintro e w4 ⟨rfl, h4⟩; have S4 := hide h4; clear h4 k5 f5 S3r)
    | (go_at_call 52; have q := S2; refine (S2.out.time n h6).mono ?_; rw [hx2]; rintro e w3 ⟨v, rfl, h3⟩; obtain ⟨g3, c3, rfl, _, _⟩ := World.ownsRow.form h3.own HL.out; have k5 := h3.sx.cells6.2.2.2.2.2; have f5 := h3.sx.fz 5; have S3r := hide h3; clear h3 S2)
    | (go_at_call 50; have q := hb1; have S1 := HB.out _ _ _ ho1 hb1; refine (S1.want blank (by decide)).mono ?_; rw [hx1]; rintro e w2 ⟨rfl, h2⟩; have S2 := hide h2; clear h2 hb1)
    | (go_at_call 49; refine (zeros_form n h1 h6 _).mono ?_; rintro e w1 ⟨g1, c1, rfl, ho1, hg1, hl1, hb1⟩; have ht1 : (w1.alloc (.cells zero6 117)).there w1.heap.size 0 6 := (Mine.made' w1 zero6 117 (n := 6) rfl).there; simp only [zero6] at ht1))
  obtain ⟨ta, no⟩ := t
  cases no with
  | true =>
    have HX : Hid (spotHex s (ta, true) = ((ta, true), [])) := by unfold Hid spotHex; rw [if_pos rfl]
    go_loopw [7] (fun v wr => Hid (Sx w wr b s (ta, true) w.heap.size w1.heap.size ⟨true, ⟨#[]⟩, numVal s y.1, numVal s z3.1, .slice (some ⟨g10, 0, none⟩) T2.2.length c10, T2.2, .slice (some ⟨g3, 0, none⟩) T1.2.length c3, T1.2⟩)) (fun _ _ => 0)
    case atStart => exact S11
    case round =>
      have c2 := hrel.out.rd.c2
      clear S11
      go_wp2_with fail
      go_quiet (fail)
      go_wp2_with (go_at_call 50; refine ((hrel.out.drewN _).want newl (by decide)).mono ?_; rintro e w12 ⟨rfl, h12⟩; have S12 := hide h12; obtain ⟨k0, k1, k2, k3, k4, k5⟩ := h12.cells6; dsimp only at k0 k1 k2 k3 k4 k5; have hth := h12.there; clear h12 hrel)
      refine bodyPost_ret (ret_cell1 Tryz.results101 (a := ⟨w.heap.size, 0, none⟩) rfl (load_stored (cs := [_, _, _, _, _, _]) hth Tryz.underlying117 rfl size_Spot)) rfl ?_
      rw [HX.out]
      exact ⟨_, rfl, S12.out.done (r := ⟨wantS s newl (ta, true), true, [], numVal s y.1, numVal s z3.1, T2.2, T1.2⟩) rfl rfl rfl rfl rfl rfl _⟩
  | false =>
    have HX : Hid (spotHex s (ta, false) = hexS s (s.size - ta) ta []) := by unfold Hid spotHex; rw [if_neg (by simp)]
    have hta := S11.out.rd.ha
    have hss := S11.out.rd.hs
    go_loopw [7] (fun v wr => ∃ (a : Nat) (u : Bs) (f : Nat), s.size - a ≤ f ∧ Hid (Sx w wr b s (a, false) w.heap.size w1.heap.size ⟨true, ⟨u.toArray⟩, numVal s y.1, numVal s z3.1, .slice (some ⟨g10, 0, none⟩) T2.2.length c10, T2.2, .slice (some ⟨g3, 0, none⟩) T1.2.length c3, T1.2⟩) ∧ Hid (hexS s (s.size - ta) ta [] = hexS s f a u)) (fun _ wr => s.size - (intOf (cv wr b 1)).toNat)
    case atStart => exact ⟨ta, [], _, Nat.le_refl _, S11, rfl⟩
    case round =>
      obtain ⟨a, u, f, hf, hS, hE⟩ := hrel
      have c0 := hS.out.rd.c0
      have c1 := hS.out.rd.c1
      have c2 := hS.out.rd.c2
      have x1c := hS.out.c1
      have f1x := hS.out.fz 1
      have f1 := hS.out.rd.fz 1
      have f2 := hS.out.rd.fz 2
      have ha := hS.out.rd.ha
      dsimp only at c1 c2 x1c ha
      have hcv : cv wr b 1 = .int .i64 a := by simp [cv, c1]
      clear S11
      by_cases hgo : a + 1 < s.size ∧ byteAt s a ≠ 10
      · have HG := hide hgo
        obtain ⟨hx, hne⟩ := hgo
        have hx0 : a < s.size := by omega
        have d1 : decide ((a : Int) + 1 < (s.size : Int)) = true := by simp; omega
        have e0 := byteAt_eq s a hx0
        have e1 := byteAt_eq s (a + 1) hx
        have d2 : ((s[a].toNat : Int) != 10) = true := by rw [← e0]; simpa using hne
        have V0 : Hid (∀ W : World, Calls Tryz.prog 166 #[.int .u8 (s[a].toNat : Int)] W fun e w' => e = .returned (.int .i64 (valOf (byteAt s a))) ∧ w' = W) := fun W => by rw [e0]; exact value_any _ W
        have V1 : Hid (∀ W : World, Calls Tryz.prog 166 #[.int .u8 (s[a + 1].toNat : Int)] W fun e w' => e = .returned (.int .i64 (valOf (byteAt s (a + 1)))) ∧ w' = W) := fun W => by rw [e1]; exact value_any _ W
        have hxI : (a : Int) + 1 < (s.size : Int) := by omega
        have hx0I : (0 : Int) ≤ (a : Int) + 1 := by omega
        have hnat : ((a : Int) + 1).toNat = a + 1 := by omega
        clear e0 e1 hne
        go_wp2_with fail
        go_quiet (fail)
        go_wp2_with fail
        go_quiet ((go_at_call 166; exact (V0.out _).mono fun _ _ h => ⟨h.1, _, h.2⟩))
        go_wp2_with fail
        go_quiet ((go_at_call 166; exact (V1.out _).mono fun _ _ h => ⟨h.1, _, h.2⟩))
        have hfs : f ≠ 0 := by omega
        obtain ⟨f', rfl⟩ : ∃ f', f = f' + 1 := ⟨f - 1, by omega⟩
        have hexE : Hid (hexS s (f' + 1) a u = if valOf (byteAt s a) < 0 ∨ valOf (byteAt s (a + 1)) < 0 ∨ 60 ≤ u.length then ((a, true), u) else hexS s f' (a + 2) (u ++ [UInt8.ofNat (16 * (valOf (byteAt s a)).toNat + (valOf (byteAt s (a + 1))).toNat)])) := by
          unfold Hid
          rw [hexS, if_pos (HG.out)]
        have SPA : Hid (0 ≤ valOf (byteAt s a) → ∃ j : Nat, valOf (byteAt s a) = j ∧ j < 16) := fun q => by obtain ⟨j, e1, e2, _⟩ := valOf_spec _ q; exact ⟨j, e1, e2⟩
        have SPB : Hid (0 ≤ valOf (byteAt s (a + 1)) → ∃ j : Nat, valOf (byteAt s (a + 1)) = j ∧ j < 16) := fun q => by obtain ⟨j, e1, e2, _⟩ := valOf_spec _ q; exact ⟨j, e1, e2⟩
        clear V0 V1
        generalize valOf (byteAt s a) = va at *
        generalize valOf (byteAt s (a + 1)) = vb at *
        have hul : (⟨u.toArray⟩ : ByteArray).size = u.length := by simp [ByteArray.size]
        by_cases hbad : va < 0 ∨ vb < 0 ∨ 60 ≤ u.length
        · rw [if_pos hbad] at hexE
          have E : Hid (hexS s (s.size - ta) ta [] = ((a, true), u)) := hE.out.trans hexE.out
          have how : decide (va < 0) = true ∨ (decide (va < 0) = false ∧ decide (vb < 0) = true) ∨ (decide (va < 0) = false ∧ decide (vb < 0) = false ∧ decide ((60 : Int) ≤ (u.length : Int)) = true ∧ decide (60 ≤ u.length) = true) := by
            by_cases q1 : va < 0
            · exact .inl (by simpa using q1)
            · by_cases q2 : vb < 0
              · exact .inr (.inl ⟨by simpa using q1, by simpa using q2⟩)
              · refine .inr (.inr ⟨by simpa using q1, by simpa using q2, ?_⟩)
                have : 60 ≤ u.length := (hbad.resolve_left q1).resolve_left q2
                exact ⟨by simp; omega, by simpa using this⟩
          clear hexE SPA SPB hul
          rcases how with d3 | ⟨d3, d4⟩ | ⟨d3, d4, d5, d6⟩
          all_goals
            obtain ⟨k0, _, k2, k3, k4, k5⟩ := hS.out.cells6
            dsimp only at k0 k2 k3 k4 k5
            have hth : ∀ q, ((wr.drewN q).setCell ⟨b, 2, none⟩ (.bool true)).there w.heap.size 0 6 := fun q => ((hS.out.drewN q).setNo true).there
            have hbx : w1.heap.size ≠ b := by have := hS.out.hx; have := hS.out.hb; omega
            have hbx' : b ≠ w1.heap.size := fun e => hbx e.symm
            go_wp2
            refine bodyPost_ret (ret_cell1 Tryz.results101 (a := ⟨w.heap.size, 0, none⟩) rfl (load_stored (cs := [_, _, _, _, _, _]) (hth _) Tryz.underlying117 rfl size_Spot)) rfl ?_
            rw [HX.out, E.out, want_true]
            exact ⟨_, rfl, ((hS.out.drewN _).setNo true).done (r := ⟨(a, true), true, u, numVal s y.1, numVal s z3.1, T2.2, T1.2⟩) rfl rfl rfl rfl rfl rfl _⟩
        · rw [if_neg hbad] at hexE
          obtain ⟨ja, rfl, hja⟩ := SPA.out (by omega)
          obtain ⟨jb, rfl, hjb⟩ := SPB.out (by omega)
          have hu60 : u.length < 60 := by omega
          have d3 : decide ((ja : Int) < 0) = false := by simp
          have d4 : decide ((jb : Int) < 0) = false := by simp
          have d5 : decide ((60 : Int) ≤ (u.length : Int)) = false := by simp; omega
          obtain ⟨cc, hcc⟩ : ∃ cc, cc = UInt8.ofNat (16 * ja + jb) := ⟨_, rfl⟩
          have EN : Hid (hexS s (s.size - ta) ta [] = hexS s f' (a + 2) (u ++ [cc])) := by
            unfold Hid
            rw [hE.out, hexE.out, hcc]
            simp only [Int.toNat_natCast]
          have hcat : Hid ((⟨u.toArray⟩ : ByteArray) ++ ⟨#[cc]⟩ = ⟨(u ++ [cc]).toArray⟩) := by unfold Hid; apply bs_inj'; simp
          have SS : Hid (∀ q o, Sx w ((((wr.drewN q).alloc o).setCell ⟨w1.heap.size, 1, none⟩ (.string ((⟨u.toArray⟩ : ByteArray) ++ ⟨#[cc]⟩))).setCell ⟨b, 1, none⟩ (.int .i64 ((a : Int) + 2))) b s (a + 2, false) w.heap.size w1.heap.size ⟨true, (⟨u.toArray⟩ : ByteArray) ++ ⟨#[cc]⟩, numVal s y.1, numVal s z3.1, .slice (some ⟨g10, 0, none⟩) T2.2.length c10, T2.2, .slice (some ⟨g3, 0, none⟩) T1.2.length c3, T1.2⟩) := fun q o => by
            have := (((hS.out.drewN q).alloc o).putText ((⟨u.toArray⟩ : ByteArray) ++ ⟨#[cc]⟩)).setAt (a + 2) (by omega)
            rwa [Int.natCast_add] at this
          have M' : Hid (∀ q o, cv ((((wr.drewN q).alloc o).setCell ⟨w1.heap.size, 1, none⟩ (.string ((⟨u.toArray⟩ : ByteArray) ++ ⟨#[cc]⟩))).setCell ⟨b, 1, none⟩ (.int .i64 ((a : Int) + 2))) b 1 = .int .i64 ((a + 2 : Nat) : Int)) := fun q o => by simp only [cv, (SS.out q o).rd.c1, Option.getD_some]
          have hconv : ∀ q, (convert 53 9 (.slice (some ⟨wr.heap.size, 0, none⟩) 1 1)).run Tryz.prog ((wr.drewN q).alloc (.cells #[.int .u8 (16 * (ja : Int) + (jb : Int))] 5)) = .ok (.string ⟨#[cc]⟩) ((wr.drewN q).alloc (.cells #[.int .u8 (16 * (ja : Int) + (jb : Int))] 5)) := fun q => by rw [hcc]; exact conv1 (wr.drewN q) _ (16 * ja + jb) (by omega) (by omega)
          have hbx : w1.heap.size ≠ b := by have := hS.out.hx; have := hS.out.hb; omega
          have hbx' : b ≠ w1.heap.size := fun e => hbx e.symm
          have hsz60 : (⟨u.toArray⟩ : ByteArray).size < 60 := by rw [hul]; exact hu60
          have hA1 : ∀ q o, ((wr.drewN q).alloc o).cell? ⟨w1.heap.size, 1, none⟩ = some (.string ⟨u.toArray⟩) := fun q o => ((hS.out.drewN q).alloc o).c1
          have hA2 : ∀ q o, ((wr.drewN q).alloc o).frozen? ⟨w1.heap.size, 1, none⟩ = false := fun q o => ((hS.out.drewN q).alloc o).fz 1
          have hB1 : ∀ q o v, (((wr.drewN q).alloc o).setCell ⟨w1.heap.size, 1, none⟩ (.string v)).cell? ⟨b, 1, none⟩ = some (.int .i64 a) := fun q o v => (((hS.out.drewN q).alloc o).putText v).rd.c1
          have hB2 : ∀ q o v, (((wr.drewN q).alloc o).setCell ⟨w1.heap.size, 1, none⟩ (.string v)).frozen? ⟨b, 1, none⟩ = false := fun q o v => (((hS.out.drewN q).alloc o).putText v).rd.fz 1
          clear SPA SPB hul hbad hcc hexE hE
          go_wp2
          go_roundw
          case rel =>
            refine ⟨a + 2, u ++ [cc], f', by omega, ?_, EN⟩
            rw [← hcat.out]
            exact SS.out _ _
          case measure =>
            rw [M'.out, hcv]
            simp only [intOf, Int.toNat_natCast]
            omega
      · have E : Hid (hexS s (s.size - ta) ta [] = ((a, false), u)) := by
          refine hE.out.trans ?_
          cases f with
          | zero => rfl
          | succ f => rw [hexS, if_neg hgo]
        have how : decide ((a : Int) + 1 < (s.size : Int)) = false ∨ ∃ hx : a < s.size, decide ((a : Int) + 1 < (s.size : Int)) = true ∧ ((s[a].toNat : Int) != 10) = false := by
          by_cases hx : a + 1 < s.size
          · have hx0 : a < s.size := by omega
            refine .inr ⟨hx0, by simp; omega, ?_⟩
            rw [← byteAt_eq s a hx0]
            have : byteAt s a = 10 := Classical.byContradiction fun q => hgo ⟨hx, q⟩
            simp [this]
          · exact .inl (by simp; omega)
        clear hE hgo
        rcases how with d1 | ⟨hx0, d1, d2⟩
        all_goals
          go_wp2_with fail
          go_quiet (fail)
          go_wp2_with (go_at_call 50; refine ((hS.out.drewN _).want newl (by decide)).mono ?_; rintro e w12 ⟨rfl, h12⟩; have S12 := hide h12; obtain ⟨k0, k1, k2, k3, k4, k5⟩ := h12.cells6; dsimp only at k0 k1 k2 k3 k4 k5; have hth := h12.there; clear h12 hS)
          refine bodyPost_ret (ret_cell1 Tryz.results101 (a := ⟨w.heap.size, 0, none⟩) rfl (load_stored (cs := [_, _, _, _, _, _]) hth Tryz.underlying117 rfl size_Spot)) rfl ?_
          rw [HX.out, E.out]
          exact ⟨_, rfl, S12.out.done (r := ⟨wantS s newl (a, false), true, u, numVal s y.1, numVal s z3.1, T2.2, T1.2⟩) rfl rfl rfl rfl rfl rfl _⟩

end Go.Proofs.YtaelaldmibgibaaGreatDoor
