/- The law's book: looks. -/
import Derived.Test.YtaelaldmibgibaaGreatDoorW09
import Derived.BigQuiet

set_option linter.unusedVariables false
set_option linter.unusedSimpArgs false

namespace Go.Proofs.YtaelaldmibgibaaGreatDoor
open Go.RowKit

set_option maxRecDepth 100000 in
set_option maxHeartbeats 1000000 in
theorem looks_any (bb : Nat) (ρ : Nat → Nat) (B : Bk) (w : World) (h : BookAt w bb ρ B) (hm : B.ms = B.ps.map BEnt.mark) (hps : B.ps.length ≤ 10000000000) :
    Calls Tryz.prog 23 #[.pointer (some ⟨bb, 0, none⟩)] w fun e w' => e = .returned (.bool true) ∧ ∃ nq, w' = w.drewN nq := by
  obtain ⟨c0, c1, c2, _, _⟩ := h.cells
  have hml : B.ms.length = B.ps.length := by rw [hm, List.length_map]
  have ENT : Hid (∀ i, i < B.ps.length → ∃ gp cp gm cm a len cap m, B.pv = .slice (some ⟨gp, 0, none⟩) B.ps.length cp ∧ B.mv = .slice (some ⟨gm, 0, none⟩) B.ps.length cm ∧ w.cell? ⟨gp, i, none⟩ = some (.slice a len cap) ∧ w.cell? ⟨gm, i, none⟩ = some (.string m) ∧ len ≤ 1000000000 ∧ (∀ k, k < len → ∃ g, a = some ⟨g, 0, none⟩ ∧ w.cell? ⟨g, k, none⟩ = some (.string m))) := by
    intro i hi
    obtain ⟨gp, cp, ep, _, _⟩ := World.ownsRow.form h.p (by omega)
    obtain ⟨gm, cm, em, _, _⟩ := World.ownsRow.form h.m (by omega)
    have hp := h.p
    have hmr := h.m
    rw [ep] at hp
    rw [em] at hmr
    have he : B.ps[i]? = some B.ps[i] := List.getElem?_eq_getElem hi
    generalize B.ps[i] = e at he
    have hE := h.ent e (List.mem_of_getElem? he)
    obtain ⟨a, cap, ev, hc⟩ := hE.form
    refine ⟨gp, cp, gm, cm, a, e.len, cap, e.mark, ep, by rw [em, hml], ?_, ?_, hE.small, fun k hk => ?_⟩
    · rw [World.ownsRow.cellAt hp i (by omega), List.getElem?_map, he]
      simp only [Option.map_some]
      rw [ev]
    · rw [World.ownsRow.cellAt hmr i (by omega)]
      unfold svs
      rw [hm, List.getElem?_map, List.getElem?_map, he]
      rfl
    · obtain ⟨g, ea, _, hcc⟩ := hc k hk
      exact ⟨g, ea, hcc⟩
  have PV : Hid (∃ a cp, B.pv = .slice a B.ps.length cp) := by
    rcases h.p.2 with ⟨e, h0⟩ | ⟨g, cap, _, e, _⟩
    · exact ⟨none, 0, by rw [e, h0]⟩
    · exact ⟨_, _, e⟩
  generalize hN : B.ps.length = N at *
  generalize hP : B.pv = pv at *
  generalize hM : B.mv = mv at *
  clear h hm hml hN hP hM
  obtain ⟨ap, cp0, rfl⟩ := PV.out
  go_enter Tryz.func23, Tryz.ntmps23
  go_wp2
  go_loopw [3] (fun iv wr => ∃ i : Nat, i ≤ N ∧ iv = .int .i64 i ∧ ∃ nq, wr = w.drewN nq) (fun iv _ => N - (intOf iv).toNat)
  case atStart => exact ⟨0, Nat.zero_le _, rfl, 0, rfl⟩
  case round =>
    obtain ⟨i, hi, rfl, nq, rfl⟩ := hrel
    by_cases hlt : i < N
    · obtain ⟨gp, cp, gm, cm, a, len, cap, m, ep, rfl, cpi, cmi, hlen, hcell⟩ := ENT.out i hlt
      cases ep
      go_wp2
      go_loopw [4] (fun kv wr => ∃ k : Nat, k ≤ len ∧ kv = .int .i64 k ∧ ∃ nq, wr = w.drewN nq) (fun kv _ => len - (intOf kv).toNat)
      case atStart => exact ⟨0, Nat.zero_le _, rfl, nq, rfl⟩
      case round =>
        obtain ⟨k, hk, rfl, nq2, rfl⟩ := hrel
        by_cases hkl : k < len
        · obtain ⟨g, rfl, hg⟩ := hcell k hkl
          go_wp2
          go_quiet (fail)
          go_wp2
          go_roundw
          case rel => exact ⟨k + 1, by omega, by go_num, _, rfl⟩
          case measure => simp [intOf]; omega
        · have ek : k = len := by omega
          subst ek
          go_wp2
          go_roundw
          case rel => exact ⟨i + 1, by omega, by go_num, _, rfl⟩
          case measure => simp [intOf]; omega
    · have ei : i = N := by omega
      subst ei
      go_wp2
      go_loopw [5] (fun kv wr => kv = .int .i64 0 ∧ ∃ nq, wr = w.drewN nq) (fun _ _ => 0)
      case atStart => exact ⟨rfl, nq, rfl⟩
      case round =>
        obtain ⟨rfl, nq2, rfl⟩ := hrel
        go_wp2
        go_ret
        exact ⟨rfl, _, rfl⟩

end Go.Proofs.YtaelaldmibgibaaGreatDoor
