/- The library's walks: Add(-1), in whatever company. -/
import Derived.Conc.FxGenWait
import Derived.Test.YtaelaldmibgibaaGreatDoorX20

set_option linter.all false
set_option maxHeartbeats 8000000
set_option maxRecDepth 100000

namespace Go.Sim
open Go.Conc Go.RowKit Go.Conc.Lib Go.ConcX.Gen
open Go.ConcX (WgAt wgBlock stA smA KK rd wr mk DC0)
variable {Wg ty : Nat} {w w₁ : World}
theorem ybd (_ : Kc ty Wg w) (h : RK (Kc ty Wg) w w₁) : Kc ty Wg w₁ := h
theorem ybc (_ : K1 ty Wg w) (h : RK (K1 ty Wg) w w₁) : K1 ty Wg w₁ := h
theorem yag (_ : K0 ty Wg w) (h : RK (K0 ty Wg) w w₁) : K0 ty Wg w₁ := h
theorem Kc.cell0 (h : Kc ty Wg w) : ∃ v, w.cell? ⟨Wg, 0, none⟩ = some v := h.elim (fun x => ⟨_, Go.ConcX.WgAt.cellSt x⟩) (fun x => ⟨_, Go.ConcX.WgAt.cellSt x⟩)
theorem addNeg {P : Program} {L : WgLink} (H : WgLib P L) {b₀ : Frame} {a₀ : Act} {ops₀ : Array Oper} {i₀ : Nat} {rest₀ : List Nat} {k₀ : List Item} {cs : List Frame} {qt : Nat}
  (hT : QuitsD P qt 0 (G (b₀.at (a₀.put ((ops₀[i₀]?).bind (·.dst)) (.tuple #[])) (.inRegion ops₀ rest₀ :: k₀)) cs)) (w : World) (hK : Kc L.tWg Wg w) :
  Goes P false (RK (Kc L.tWg Wg)) DC0 (SR0 P L.tWg Wg) 20 (G ((base L.add).at ⟨(List.toArray (.pointer (some ⟨Wg, 0, none⟩) :: .int .i64 (-1) :: List.replicate 115 undef)), []⟩ [.code (body_add L)]) (b₀.at a₀ (.inRegion ops₀ (i₀ :: rest₀) :: k₀) :: cs)) w := by
 simp only [List.replicate]
 lib_facts
 simp only [body_add, addFn, Option.getD_some]
 repeat first | u_c stepG_region_end ybd hK | u_c stepG_seq ybd hK | u_reg ybd hK | u_cond true ybd hK | u_op ybd hK
 u_conv H.underlying_tWgP H.room_tWg (Kc.cell0 hK).choose_spec ybd hK
 refine Goes.stop (fun w₁ h₁ => ?_)
 replace hK := ybd hK h₁
 refine ⟨rfl, _, stepG_markAt .releaseMerge (by simp) rfl rfl (by k_ne) rfl H.f_relMerge (x_relMerge_n L) (x_relMerge_b L) (x_relMerge_x L) (x_relMerge_f L) (by simp [Act.eval, stA]), 10, Wk.of (w := w₁) ?_⟩
 walk_nrm
 u_c stepG_region_end ybd hK
 u_c stepG_seq ybd hK
 u_reg ybd hK
 refine Goes.stop (fun w₁ h₁ => ?_)
 replace hK := ybd hK h₁
 refine ⟨rfl, _, stepG_mark0 .disable (by simp) rfl rfl (by k_ne) rfl H.f_disable (x_disable_n L) (x_disable_b L) (x_disable_x L) (x_disable_f L), 50, Wk.of (w := w₁) ?_⟩
 walk_nrm
 u_c stepG_region_end ybd hK
 u_reg ybd hK
 u_defer ybd hK
 repeat first | u_c stepG_region_end ybd hK | u_c stepG_seq ybd hK | u_reg ybd hK | u_op ybd hK
 u_bub ybd hK
 repeat first | u_c stepG_region_end ybd hK | u_c stepG_seq ybd hK | u_c stepG_skip ybd hK | u_reg ybd hK | u_cond false ybd hK | u_op ybd hK
 u_call H.f_uAdd (nm_uAdd L) uAddFn ybd hK
 repeat first | u_c stepG_region_end ybd hK | u_c stepG_seq ybd hK | u_reg ybd hK | u_op ybd hK
 refine Goes.stop (fun w₁ h₁ => ?_)
 replace hK := ybd hK h₁
 clear hK
 have e0 : IntKind.u64.wrap (KK + 18446744069414584320) = 0 := by decide
 have e1 : IntKind.u64.wrap (KK + 1 + 18446744069414584320) = 1 := by decide
 refine ⟨rfl, fun hw => ?_, fun hw => ?_⟩
 ·refine ⟨_, (stepG_add_atomic rfl rfl (by k_ne) rfl H.f_addU64 (x_addU64_n L) (x_addU64_b L) (x_addU64_x L) .u64 (x_addU64_f L) rfl rfl (Go.ConcX.WgAt.cellSt hw) (Go.ConcX.WgAt.thaw hw 0)).trans (by rw [e0]; rfl), qt + 89, ?_⟩
  clear hw
  walk_nrm
  q_val (.int .u64 0)
  q_c stepG_region_end
  q_c stepG_ret'
  q_leave1 H.f_uAdd
  q_val (.int .u64 0)
  q_c stepG_region_end
  q_c stepG_seq
  q_c stepG_seq
  q_reg
  q_val (.int .u64 0)
  q_val (.int .u64 0)
  q_val (.bool false)
  q_val (.bool false)
  q_skip
  q_skip
  q_val (.bool false)
  q_c stepG_region_end
  q_cond false
  q_c stepG_skip
  q_c stepG_seq
  q_reg
  q_val (.int .u64 0)
  q_val (.int .u64 0)
  q_val (.int .i32 0)
  q_val (.int .i32 0)
  q_c stepG_region_end
  q_c stepG_seq
  q_reg
  q_val (.int .u64 0)
  q_val (.int .u64 0)
  q_val (.int .u32 0)
  q_val (.int .u32 0)
  q_c stepG_region_end
  q_c stepG_seq
  q_c stepG_seq
  q_reg
  q_val (.bool true)
  q_val (.int .i64 (-1))
  q_val (.bool false)
  q_val (.bool false)
  q_val (.bool false)
  q_skip
  q_skip
  q_skip
  q_skip
  q_val (.bool false)
  q_c stepG_region_end
  q_cond false
  q_c stepG_skip
  q_c stepG_seq
  q_c stepG_seq
  q_reg
  q_val (.int .i32 0)
  q_val (.bool false)
  q_c stepG_region_end
  q_cond false
  q_c stepG_skip
  q_c stepG_seq
  q_c stepG_seq
  q_reg
  q_val (.int .u32 0)
  q_val (.bool false)
  q_val (.bool false)
  q_skip
  q_skip
  q_val (.bool false)
  q_val (.bool false)
  q_skip
  q_skip
  q_skip
  q_skip
  q_val (.bool false)
  q_c stepG_region_end
  q_cond false
  q_c stepG_skip
  q_c stepG_seq
  q_c stepG_seq
  q_reg
  q_val (.int .i32 0)
  q_val (.bool false)
  q_val (.bool false)
  q_val (.int .u32 0)
  q_val (.bool true)
  q_val (.bool true)
  q_c stepG_region_end
  q_cond true
  q_c stepG_ret'
  q_enable
  q_leave0 H.f_add
  exact hT
 ·have hK : K1 L.tWg Wg (w₁.setCell (stA Wg) (.int .u64 1)) := Go.ConcX.WgAt.setSt hw 1
  refine ⟨_, (stepG_add_atomic rfl rfl (by k_ne) rfl H.f_addU64 (x_addU64_n L) (x_addU64_b L) (x_addU64_x L) .u64 (x_addU64_f L) rfl rfl (Go.ConcX.WgAt.cellSt hw) (Go.ConcX.WgAt.thaw hw 0)).trans (by rw [e1]; rfl), 130, Wk.of (w := w₁.setCell (stA Wg) (.int .u64 1)) ?_⟩
  clear hw
  walk_nrm
  u_op ybc hK
  u_c stepG_region_end ybc hK
  u_c stepG_ret' ybc hK
  u_leave1 H.f_uAdd ybc hK
  repeat first | u_c stepG_region_end ybc hK | u_c stepG_seq ybc hK | u_c stepG_skip ybc hK | u_reg ybc hK | u_cond false ybc hK | u_skip ybc hK | u_op ybc hK
  u_call H.f_uLoad (nm_uLoad L) uLoadFn ybc hK
  repeat first | u_c stepG_region_end ybc hK | u_c stepG_seq ybc hK | u_reg ybc hK | u_op ybc hK
  refine Goes.stop (fun w₂ h₂ => ?_)
  replace hK := ybc hK h₂
  refine ⟨rfl, _, stepG_load_atomic rfl rfl (by k_ne) rfl H.f_loadU64 (x_loadU64_n L) (x_loadU64_b L) (x_loadU64_x L) .u64 (x_loadU64_f L) rfl (Go.ConcX.WgAt.cellSt hK), 40, Wk.of (w := w₂) ?_⟩
  walk_nrm
  u_op ybc hK
  u_c stepG_region_end ybc hK
  u_c stepG_ret' ybc hK
  u_leave1 H.f_uLoad ybc hK
  repeat first | u_c stepG_region_end ybc hK | u_c stepG_seq ybc hK | u_c stepG_skip ybc hK | u_reg ybc hK | u_cond false ybc hK | u_op ybc hK
  u_call H.f_uStore (nm_uStore L) uStoreFn ybc hK
  repeat first | u_reg ybc hK | u_op ybc hK
  refine Goes.stop (fun w₃ h₃ => ?_)
  replace hK := ybc hK h₃
  have hK0 : K0 L.tWg Wg (w₃.setCell (stA Wg) (.int .u64 0)) := Go.ConcX.WgAt.setSt hK 0
  refine ⟨rfl, _, stepG_store_atomic rfl rfl (by k_ne) rfl H.f_storeU64 (x_storeU64_n L) (x_storeU64_b L) (x_storeU64_x L) (x_storeU64_f L) rfl rfl (Go.ConcX.WgAt.cellSt hK) (Go.ConcX.WgAt.thaw hK 0), 50, Wk.of (w := w₃.setCell (stA Wg) (.int .u64 0)) ?_⟩
  clear hK
  walk_nrm
  u_c stepG_region_end yag hK0
  u_c stepG_end yag hK0
  u_leave0 H.f_uStore yag hK0
  repeat first | u_c stepG_block yag hK0 | u_c stepG_loop yag hK0 | u_c stepG_region_end yag hK0 | u_c stepG_seq yag hK0 | u_c stepG_skip yag hK0 | u_reg yag hK0 | u_cond false yag hK0 | u_cond true yag hK0 | u_op yag hK0
  refine Goes.stop (fun w₄ h₄ => ?_)
  replace hK0 := yag hK0 h₄
  refine ⟨rfl, mayWake_entry rfl rfl H.f_semrelease (x_semrelease_b L), _, (stepG_semrelease rfl rfl (by k_ne) rfl H.f_semrelease (x_semrelease_n L) (x_semrelease_b L) (x_semrelease_x L) (x_semrelease_f L) (by simp [Act.eval, smA]) (Go.ConcX.WgAt.cellSm hK0) (Go.ConcX.WgAt.thaw hK0 1)).trans (by rfl), qt + 19, ?_⟩
  clear hK0
  walk_nrm
  q_c stepG_region_end
  q_c stepG_inBlock
  q_reg
  q_val (.int .u32 1)
  q_val (.int .u32 0)
  q_val (.int .u32 0)
  q_c stepG_region_end
  q_c stepG_inLoop
  q_c stepG_seq
  q_c stepG_seq
  q_reg
  q_val (.int .u32 0)
  q_val (.bool false)
  q_c stepG_region_end
  q_cond false
  q_exit
  q_c stepG_end
  q_enable
  q_leave0 H.f_add
  exact hT
end Go.Sim

namespace Go.Sim
open Go.Conc Go.RowKit Go.Conc.Lib Go.ConcX.Gen
open Go.ConcX (WgAt wgBlock stA smA KK rd wr mk DC0)
def KT (_ : World) : Prop := True
theorem ysk {w w₁ : World} (_ : KT w) (h : RK KT w w₁) : KT w₁ := h
theorem ydt {ty Wg : Nat} {w w₁ : World} (_ : Ka ty Wg w) (h : RK (Ka ty Wg) w w₁) : Ka ty Wg w₁ := h
theorem ykv {ty Wg : Nat} {w w₁ : World} (_ : Kb ty Wg w) (h : RK (Kb ty Wg) w w₁) : Kb ty Wg w₁ := h
theorem Kb.cell1 {ty Wg : Nat} {w : World} (h : Kb ty Wg w) : ∃ v, w.cell? ⟨Wg, 1, none⟩ = some v := by
 rcases h with x | x | x | x <;> exact ⟨_, Go.ConcX.WgAt.cellSm x⟩
theorem K0.cell0 {ty Wg : Nat} {w : World} (h : K0 ty Wg w) : w.cell? ⟨Wg, 0, none⟩ = some (.int .u64 0) := Go.ConcX.WgAt.cellSt h
def yti (L : WgLink) (Wg : Nat) (c : Frame) (cs : List Frame) (g : Goroutine) : Prop :=
 ∃ T : Array Value, g = G ((base L.wait).at ⟨T, []⟩ [.code (L7 L), .inLoop (L7 L), .inBlock 0]) (c :: cs) ∧ T.size = 84 ∧ T[0]? = some (.pointer (some ⟨Wg, 0, none⟩))
theorem yti.running {L : WgLink} {Wg : Nat} {c : Frame} {cs : List Frame} (g : Goroutine) (h : yti L Wg c cs g) : g.status = .running := by
 obtain ⟨T, rfl, _⟩ := h
 rfl
def FinW (P : Program) (gR : Goroutine) (g : Goroutine) : Prop := ∃ m, Wk P true KT (fun g _ => g = gR) m g
variable {b₀ : Frame} {a₀ : Act} {ops₀ : Array Oper} {i₀ : Nat} {rest₀ : List Nat} {k₀ : List Item} {cs : List Frame}
theorem waitRound {P : Program} {L : WgLink} (H : WgLib P L) {Wg : Nat} (g : Goroutine) (h : yti L Wg (b₀.at a₀ (.inRegion ops₀ (i₀ :: rest₀) :: k₀)) cs g) :
  ∃ m, Wk P true (Ka L.tWg Wg) (SW1 P L.tWg Wg (FinW P (G (b₀.at (a₀.put ((ops₀[i₀]?).bind (·.dst)) (.tuple #[])) (.inRegion ops₀ rest₀ :: k₀)) cs)) (yti L Wg (b₀.at a₀ (.inRegion ops₀ (i₀ :: rest₀) :: k₀)) cs)) m g := by
 lib_facts
 obtain ⟨T, rfl, hT84, t0⟩ := h
 obtain ⟨v0, v1, v2, v3, v4, v5, v6, v7, v8, v9, v10, v11, v12, v13, v14, v15, v16, v17, v18, v19, v20, v21, v22, v23, v24, v25, v26, v27, v28, v29, v30, v31, v32, v33, v34, v35, v36, v37, v38, v39, v40, v41, v42, v43, v44, v45, v46, v47, v48, v49, v50, v51, v52, v53, v54, v55, v56, v57, v58, v59, v60, v61, v62, v63, v64, v65, v66, v67, v68, v69, v70, v71, v72, v73, v74, v75, v76, v77, v78, v79, v80, v81, v82, v83, rfl⟩ := array84 T hT84
 simp only [List.getElem?_toArray, List.getElem?_cons_zero, Option.some.injEq] at t0
 subst t0
 refine ⟨30, fun w => ?_⟩
 by_cases hF : ∃ w, Ka L.tWg Wg w
 case neg =>
  refine Goes.stop (fun w₁ h₁ => absurd ⟨w₁, h₁⟩ hF)
 obtain ⟨w, hF⟩ := hF
 refine Wk.of (w := w) ?_ _
 simp only [L7, body_wait, waitFn, Option.getD_some]
 u_c stepG_block ydt hF
 u_c stepG_seq ydt hF
 u_reg ydt hF
 iterate 3 u_op ydt hF
 u_call H.f_uLoad (nm_uLoad L) uLoadFn ydt hF
 u_c stepG_seq ydt hF
 u_reg ydt hF
 u_op ydt hF
 u_c stepG_region_end ydt hF
 u_c stepG_seq ydt hF
 u_reg ydt hF
 iterate 3 u_op ydt hF
 refine Goes.stop (fun w₁ h₁ => ?_)
 replace hF := ydt hF h₁
 clear h₁
 rcases hF with hw | hc
 ·refine ⟨rfl, _, stepG_load_atomic (v := 4294967296) rfl rfl (by k_ne) rfl H.f_loadU64 (x_loadU64_n L) (x_loadU64_b L) (x_loadU64_x L) .u64 (x_loadU64_f L) rfl (Go.ConcX.WgAt.cellSt hw), fun _ => ⟨60, Wk.of (w := w₁) ?_⟩, fun hc => absurd (Go.ConcX.WgAt.unique hw hc).1 kk0⟩
  have hF : Ka L.tWg Wg w₁ := .inl hw
  clear hw
  walk_nrm
  u_op ydt hF
  u_c stepG_region_end ydt hF
  u_c stepG_ret' ydt hF
  u_leave1 H.f_uLoad ydt hF
  u_op ydt hF
  u_c stepG_region_end ydt hF
  u_c stepG_seq ydt hF
  u_reg ydt hF
  iterate 4 u_op ydt hF
  u_c stepG_region_end ydt hF
  u_c stepG_seq ydt hF
  u_reg ydt hF
  iterate 4 u_op ydt hF
  u_c stepG_region_end ydt hF
  iterate 2 u_c stepG_seq ydt hF
  u_reg ydt hF
  iterate 2 u_op ydt hF
  u_c stepG_region_end ydt hF
  u_cond false ydt hF
  u_c stepG_skip ydt hF
  u_c stepG_seq ydt hF
  u_reg ydt hF
  iterate 6 u_op ydt hF
  u_call H.f_uCas (nm_uCas L) uCasFn ydt hF
  u_c stepG_seq ydt hF
  u_reg ydt hF
  u_op ydt hF
  u_c stepG_region_end ydt hF
  u_c stepG_seq ydt hF
  u_reg ydt hF
  iterate 5 u_op ydt hF
  refine Goes.stop (fun w₂ h₂ => ?_)
  clear h₂ hF
  refine ⟨rfl, fun hw => ?_, fun hc => ?_⟩
  ·refine ⟨_, (stepG_cas_hit (v := 4294967296) (n := 4294967297) rfl rfl (by k_ne) rfl H.f_casU64 (x_casU64_n L) (x_casU64_b L) (x_casU64_x L) .u64 (x_casU64_f L) rfl rfl rfl (Go.ConcX.WgAt.cellSt hw) (Go.ConcX.WgAt.thaw hw 0)).trans (by rfl), 70, Wk.of (w := w₂.setCell (stA Wg) (.int .u64 (KK + 1))) ?_⟩
   have hF : Kb L.tWg Wg (w₂.setCell (stA Wg) (.int .u64 (KK + 1))) := .inl (Go.ConcX.WgAt.setSt hw _)
   clear hw
   walk_nrm
   u_op ykv hF
   u_c stepG_region_end ykv hF
   u_c stepG_ret' ykv hF
   u_leave1 H.f_uCas ykv hF
   u_c stepG_region_end ykv hF
   u_cond true ykv hF
   iterate 2 u_c stepG_seq ykv hF
   u_reg ykv hF
   iterate 4 u_op ykv hF
   u_c stepG_region_end ykv hF
   u_cond true ykv hF
   u_reg ykv hF
   iterate 3 u_op ykv hF
   u_conv H.underlying_tPU32 H.room_tU32 (Kb.cell1 hF).choose_spec ykv hF
   refine Goes.stop (fun w₃ h₃ => ?_)
   replace hF := ykv hF h₃
   clear h₃
   refine ⟨rfl, _, stepG_markAt .write (by simp) rfl rfl (by k_ne) rfl H.f_raceWrite (x_raceWrite_n L) (x_raceWrite_b L) (x_raceWrite_x L) (x_raceWrite_f L) (ad := smA Wg) (by simp [Act.eval, smA]), 40, Wk.of (w := w₃) ?_⟩
   walk_nrm
   u_c stepG_region_end ykv hF
   u_c stepG_seq ykv hF
   u_reg ykv hF
   u_op ykv hF
   u_c stepG_region_end ykv hF
   iterate 2 u_c stepG_seq ykv hF
   u_reg ykv hF
   iterate 4 u_op ykv hF
   u_skip ykv hF
   u_op ykv hF
   u_c stepG_region_end ykv hF
   u_cond false ykv hF
   u_c stepG_skip ykv hF
   u_c stepG_seq ykv hF
   u_reg ykv hF
   iterate 4 u_op ykv hF
   refine Goes.stop (fun w₄ h₄ => ?_)
   clear h₄ hF
   refine ⟨rfl, rfl, fun st hw => stepG_semacquire_wait rfl rfl rfl H.f_semacquire (x_semacquire_n L) (x_semacquire_b L) (x_semacquire_x L) (x_semacquire_f L) (by simp [Act.eval, smA]) (Go.ConcX.WgAt.cellSm hw), fun hf => ?_⟩
   refine ⟨_, (stepG_semacquire (n := 1) rfl rfl (by k_ne) rfl H.f_semacquire (x_semacquire_n L) (x_semacquire_b L) (x_semacquire_x L) (x_semacquire_f L) (by simp [Act.eval, smA]) (Go.ConcX.WgAt.cellSm hf) (by k_ne) (Go.ConcX.WgAt.thaw hf 1)).trans (by rfl), 30, Wk.of (w := w₄.setCell (smA Wg) (.int .u32 0)) ?_⟩
   have hF : K0 L.tWg Wg (w₄.setCell (smA Wg) (.int .u32 0)) := Go.ConcX.WgAt.setSm hf 0
   clear hf
   walk_nrm
   u_c stepG_region_end yag hF
   u_c stepG_seq yag hF
   u_reg yag hF
   iterate 3 u_op yag hF
   u_call H.f_uLoad (nm_uLoad L) uLoadFn yag hF
   u_c stepG_seq yag hF
   u_reg yag hF
   u_op yag hF
   u_c stepG_region_end yag hF
   u_c stepG_seq yag hF
   u_reg yag hF
   iterate 3 u_op yag hF
   refine Goes.stop (fun w₅ h₅ => ?_)
   replace hF := yag hF h₅
   clear h₅
   refine ⟨rfl, _, stepG_load_atomic (v := 0) rfl rfl (by k_ne) rfl H.f_loadU64 (x_loadU64_n L) (x_loadU64_b L) (x_loadU64_x L) .u64 (x_loadU64_f L) rfl (Go.ConcX.WgAt.cellSt hF), 30, Wk.of (w := w₅) ?_⟩
   walk_nrm
   u_op yag hF
   u_c stepG_region_end yag hF
   u_c stepG_ret' yag hF
   u_leave1 H.f_uLoad yag hF
   iterate 2 u_op yag hF
   u_c stepG_region_end yag hF
   u_c stepG_seq yag hF
   u_cond true yag hF
   u_c stepG_seq yag hF
   u_reg yag hF
   refine Goes.stop (fun w6 h6 => ?_)
   replace hF := yag hF h6
   clear h6
   refine ⟨rfl, _, stepG_mark0 .enable (by simp) rfl rfl (by k_ne) rfl H.f_enable (x_enable_n L) (x_enable_b L) (x_enable_x L) (x_enable_f L), 12, Wk.of (w := w6) ?_⟩
   walk_nrm
   u_c stepG_region_end yag hF
   u_reg yag hF
   u_op yag hF
   u_conv H.underlying_tWgP H.room_tWg (K0.cell0 hF) yag hF
   refine Goes.stop (fun w6a h6a => ?_)
   clear h6a hF
   refine ⟨rfl, _, stepG_markAt .acquire (by simp) rfl rfl (by k_ne) rfl H.f_acquire (x_acquire_n L) (x_acquire_b L) (x_acquire_x L) (x_acquire_f L) (by simp [Act.eval, stA]), 40, Wk.of (w := w6a) ?_⟩
   have hF : KT w6a := trivial
   walk_nrm
   u_c stepG_region_end ysk hF
   iterate 2 u_c stepG_seq ysk hF
   u_reg ysk hF
   u_op ysk hF
   u_c stepG_region_end ysk hF
   u_cond false ysk hF
   u_c stepG_skip ysk hF
   u_c stepG_ret' ysk hF
   u_leave0 H.f_wait ysk hF
   exact Goes.stop (fun _ _ => rfl)
  ·refine ⟨_, stepG_cas_miss (v := 0) (old := 4294967296) (n := 4294967297) rfl rfl (by k_ne) rfl H.f_casU64 (x_casU64_n L) (x_casU64_b L) (x_casU64_x L) .u64 (x_casU64_f L) rfl rfl rfl (Go.ConcX.WgAt.cellSt hc) (Go.ConcX.WgAt.thaw hc 0) (by k_ne), 20, Wk.of (w := w₂) ?_⟩
   have hF : Ka L.tWg Wg w₂ := .inr hc
   clear hc
   walk_nrm
   u_op ydt hF
   u_c stepG_region_end ydt hF
   u_c stepG_ret' ydt hF
   u_leave1 H.f_uCas ydt hF
   u_c stepG_region_end ydt hF
   u_cond false ydt hF
   u_c stepG_skip ydt hF
   u_c stepG_inBlock ydt hF
   u_c stepG_inLoop ydt hF
   exact Goes.stop (fun w₃ h₃ => ⟨_, rfl, by simp, by simp⟩)
 ·refine ⟨rfl, _, stepG_load_atomic (v := 0) rfl rfl (by k_ne) rfl H.f_loadU64 (x_loadU64_n L) (x_loadU64_b L) (x_loadU64_x L) .u64 (x_loadU64_f L) rfl (Go.ConcX.WgAt.cellSt hc), fun hw => absurd (Go.ConcX.WgAt.unique hw hc).1 kk0, fun _ => ⟨50, Wk.of (w := w₁) ?_⟩⟩
  have hF : K0 L.tWg Wg w₁ := hc
  clear hc
  walk_nrm
  u_op yag hF
  u_c stepG_region_end yag hF
  u_c stepG_ret' yag hF
  u_leave1 H.f_uLoad yag hF
  u_op yag hF
  u_c stepG_region_end yag hF
  u_c stepG_seq yag hF
  u_reg yag hF
  iterate 4 u_op yag hF
  u_c stepG_region_end yag hF
  u_c stepG_seq yag hF
  u_reg yag hF
  iterate 4 u_op yag hF
  u_c stepG_region_end yag hF
  iterate 2 u_c stepG_seq yag hF
  u_reg yag hF
  iterate 2 u_op yag hF
  u_c stepG_region_end yag hF
  u_cond true yag hF
  u_c stepG_seq yag hF
  u_cond true yag hF
  u_c stepG_seq yag hF
  u_reg yag hF
  refine Goes.stop (fun w7 h7 => ?_)
  replace hF := yag hF h7
  clear h7
  refine ⟨rfl, _, stepG_mark0 .enable (by simp) rfl rfl (by k_ne) rfl H.f_enable (x_enable_n L) (x_enable_b L) (x_enable_x L) (x_enable_f L), 12, Wk.of (w := w7) ?_⟩
  walk_nrm
  u_c stepG_region_end yag hF
  u_reg yag hF
  u_op yag hF
  u_conv H.underlying_tWgP H.room_tWg (K0.cell0 hF) yag hF
  refine Goes.stop (fun w7a h7a => ?_)
  clear h7a hF
  refine ⟨rfl, _, stepG_markAt .acquire (by simp) rfl rfl (by k_ne) rfl H.f_acquire (x_acquire_n L) (x_acquire_b L) (x_acquire_x L) (x_acquire_f L) (by simp [Act.eval, stA]), 40, Wk.of (w := w7a) ?_⟩
  have hF : KT w7a := trivial
  walk_nrm
  u_c stepG_region_end ysk hF
  iterate 2 u_c stepG_seq ysk hF
  u_reg ysk hF
  iterate 8 u_op ysk hF
  iterate 2 u_skip ysk hF
  u_op ysk hF
  u_c stepG_region_end ysk hF
  u_cond false ysk hF
  u_c stepG_skip ysk hF
  u_c stepG_ret' ysk hF
  u_leave0 H.f_wait ysk hF
  exact Goes.stop (fun _ _ => rfl)
theorem waitStart {P : Program} {L : WgLink} (H : WgLib P L) {Wg : Nat} :
  Wk P true (Ka L.tWg Wg) (SKd P L.tWg Wg (yti L Wg (b₀.at a₀ (.inRegion ops₀ (i₀ :: rest₀) :: k₀)) cs)) 3
   (G ((base L.wait).at ⟨(List.toArray (.pointer (some ⟨Wg, 0, none⟩) :: List.replicate 83 undef)), []⟩ [.code (body_wait L)]) (b₀.at a₀ (.inRegion ops₀ (i₀ :: rest₀) :: k₀) :: cs)) := by
 simp only [List.replicate]
 lib_facts
 by_cases hF : ∃ w, Ka L.tWg Wg w
 case neg =>
  exact fun w => Goes.stop (fun w₁ h₁ => absurd ⟨w₁, h₁⟩ hF)
 obtain ⟨w, hF⟩ := hF
 refine Wk.of (w := w) ?_
 simp only [body_wait, waitFn, Option.getD_some]
 u_c stepG_seq ydt hF
 u_cond true ydt hF
 u_reg ydt hF
 refine Goes.stop (fun w₁ h₁ => ?_)
 replace hF := ydt hF h₁
 clear h₁
 refine ⟨rfl, _, stepG_mark0 .disable (by simp) rfl rfl (by k_ne) rfl H.f_disable (x_disable_n L) (x_disable_b L) (x_disable_x L) (x_disable_f L), 3, Wk.of (w := w₁) ?_⟩
 walk_nrm
 u_c stepG_region_end ydt hF
 u_c stepG_block ydt hF
 u_c stepG_loop ydt hF
 exact Goes.stop (fun w₂ h₂ => ⟨_, rfl, by simp, by simp⟩)
end Go.Sim

namespace Go.Sim
open Go.Conc
open Go.ConcX (WgAt wgBlock stA smA KK rd wr mk DC0)
open Go.ConcN (sumTo upd sumTo_upd upd_ne upd_same)
section
variable {P : Program} {Done : Array Goroutine → World → Trace → Prop} {gs : Array Goroutine} {a : Goroutine} {w : World} {sl : Option (Nat × Nat)} {T : Trace} {q : Nat → Nat}
theorem yym (h0 : gs[0]? = some a) (hL : Leavers P T gs q) (hrun : a.status = .running)
  (k0 : ∀ d sl', ∃ gs1 w1 sl1 ops, runT P (crowd gs (w.at d) sl') 0 = (.next (crowd gs1 w1 sl1), ops) ∧ yhp P Done gs1 w1 sl1 (T ++ ops))
  (k1 : ∀ d i fn pos es q', 0 < i → i < gs.size → (∀ e ∈ es, Event.mute e = true) → sumTo gs.size q' < sumTo gs.size q → ∀ gs' sl', gs'.size = gs.size → gs'[0]? = some a → Leavers P (T ++ MemOp.ofEvents i fn pos es) gs' q' → yhp P Done gs' (w.at d) sl' (T ++ MemOp.ofEvents i fn pos es)) :
  yhp P Done gs w sl T := by
 have haw : ∀ g ∈ gs, awake g := by
  intro g hg
  obtain ⟨i, hi, rfl⟩ := Array.mem_iff_getElem.1 hg
  rcases Nat.eq_zero_or_pos i with rfl | hpos
  ·have : gs[0] = a := by simpa [Array.getElem?_eq_getElem hi] using h0
   rw [this]; exact awake_of (.inl hrun)
  ·exact awake_of ((hL.old i _ hpos (Array.getElem?_eq_getElem hi)).status.elim .inl fun x => .inr (.inr x))
 obtain ⟨i, g, d, sl', hi, hg, hst⟩ := crowd_pick (P := P) (w := w) (sl := sl) haw ⟨0, a, h0, hrun⟩
 rcases Nat.eq_zero_or_pos i with rfl | hpos
 ·obtain ⟨gs1, w1, sl1, ops, e, hW⟩ := k0 d sl'
  exact yhp.next (hst.trans e) hW
 ·have hq := hL.old i g hpos hi
  have hi0 : (i == 0) = false := by simp; omega
  have hlt : i < gs.size := (Array.getElem?_eq_some_iff.1 hi).1
  cases hqi : q i with
  |zero => rw [hqi] at hq; rw [hq.1] at hg; cases hg
  |succ k =>
   rw [hqi] at hq
   rcases hq with ⟨hf, _⟩ | ⟨_, g', es, hm, hstp, hq'⟩
   ·rw [hf] at hg; cases hg
   have hrunT := runT_crowd_go (P := P) (sl := sl') (i := i) hi (by rw [hi0]; exact hstp (w.at d))
   have hsum : sumTo gs.size (upd q i k) + (k + 1) = sumTo gs.size q + k := by
    have := sumTo_upd q k id hlt
    simpa [hqi] using this
   refine yhp.next (hst.trans hrunT) (k1 d i _ _ es (upd q i k) hpos hlt hm (by omega) _ _ (by simp) ?_ ⟨fun j x hj hx => ?_, fun j hj => ?_⟩)
   ·rw [Array.getElem?_setIfInBounds_ne (by omega), Array.getElem?_map, h0]
    simp [woken_run hrun]
   ·by_cases hji : i = j
    ·subst hji
     rw [Array.getElem?_setIfInBounds_self_of_lt (by simpa using hlt)] at hx
     obtain rfl := Option.some.inj hx
     rw [upd_same, Deaf_own]
     exact hq'
    ·rw [Array.getElem?_setIfInBounds_ne hji, Array.getElem?_map] at hx
     obtain ⟨y, hy, rfl⟩ := Option.map_eq_some_iff.1 hx
     have hqj := hL.old j y hj hy
     rw [woken_quitsD hqj, upd_ne q k (Ne.symm hji), Deaf_other T hji _ yfg]
     exact hqj
   ·rw [Deaf_other T (g' := i) (by simp at hj; omega) _ yfg]
    exact hL.above j (by simpa using hj)
theorem own_step {a' : Goroutine} {w' : World} {es : Array Event} {d : Nat} (h0 : gs[0]? = some a) (hL : Leavers P T gs q) (hgo : stepG P true a (w.at d) = .go a' w' es) (sl' : Option (Nat × Nat))
  (hk : ∀ gs', gs'.size = gs.size → gs'[0]? = some a' → Leavers P (T ++ MemOp.ofEvents 0 a.frame.fn a.frame.place es) gs' q → yhp P Done gs' w' sl' (T ++ MemOp.ofEvents 0 a.frame.fn a.frame.place es)) :
  ∃ gs1 w1 sl1 ops, runT P (crowd gs (w.at d) sl') 0 = (.next (crowd gs1 w1 sl1), ops) ∧ yhp P Done gs1 w1 sl1 (T ++ ops) := by
 have hlt : 0 < gs.size := (Array.getElem?_eq_some_iff.1 h0).1
 refine ⟨_, _, _, _, runT_crowd_go (P := P) (sl := sl') (i := 0) h0 (show stepG P (0 == 0) a (w.at d) = _ from hgo), hk _ (by simp) (by simp [hlt]) ⟨fun j x hj hx => ?_, fun j hj => ?_⟩⟩
 ·rw [Array.getElem?_setIfInBounds_ne (by omega), Array.getElem?_map] at hx
  obtain ⟨y, hy, rfl⟩ := Option.map_eq_some_iff.1 hx
  have hq := hL.old j y hj hy
  rw [woken_quitsD hq, Deaf_other T (g' := 0) (by omega) _ yfg]
  exact hq
 ·rw [Deaf_other T (g' := 0) (by simp at hj; omega) _ yfg]
  exact hL.above j (by simpa using hj)
theorem spawn_step {a' child : Goroutine} {w' : World} {d : Nat} (h0 : gs[0]? = some a) (hL : Leavers P T gs q) (hgo : stepG P true a (w.at d) = .spawn a' child w' #[]) (sl' : Option (Nat × Nat))
  (hk : ∀ gs' T' (x y : MemOp), T' = (T.push x).push y → x.g = 0 → x.act = .go gs.size → y.g = gs.size → y.act = .start → Two P gs.size gs' a' child T' q → yhp P Done gs' w' sl' T') :
  ∃ gs1 w1 sl1 ops, runT P (crowd gs (w.at d) sl') 0 = (.next (crowd gs1 w1 sl1), ops) ∧ yhp P Done gs1 w1 sl1 (T ++ ops) := by
 have hlt : 0 < gs.size := (Array.getElem?_eq_some_iff.1 h0).1
 have hr := runT_crowd_spawn (P := P) (sl := sl') (i := 0) h0 (show stepG P (0 == 0) a (w.at d) = _ from hgo)
 have e : ∀ x y : MemOp, T ++ ((MemOp.ofEvents 0 a.frame.fn a.frame.place #[]).push x).push y = (T.push x).push y := by
  intro x y
  have : MemOp.ofEvents 0 a.frame.fn a.frame.place #[] = #[] := by simp [MemOp.ofEvents]
  rw [this]
  apply Array.toList_inj.1
  simp
 refine ⟨_, _, _, _, hr, ?_⟩
 rw [e]
 refine hk _ _ _ _ rfl rfl rfl rfl rfl ⟨by simp, hlt, ?_, ?_, fun j x hj hjc hx => ?_, fun j hj => ?_⟩
 ·rw [Array.getElem?_push_lt (by simpa using hlt)]; simp
 ·have e1 : gs.size = (gs.setIfInBounds 0 a').size := by simp
  conv => lhs; rw [e1]
  rw [Array.getElem?_push_size]
 ·have hx' : gs[j]? = some x := by
   rw [Array.getElem?_push, if_neg (by simp; omega), Array.getElem?_setIfInBounds_ne (by omega)] at hx
   exact hx
  have e2 : ∀ x y : MemOp, (T.push x).push y = (T ++ #[x]) ++ #[y] := fun x y => by apply Array.toList_inj.1; simp
  rw [e2, Deaf_push, Deaf_push]
  unfold deafStep
  exact hL.old j x hj hx'
 ·have e2 : ∀ x y : MemOp, (T.push x).push y = (T ++ #[x]) ++ #[y] := fun x y => by apply Array.toList_inj.1; simp
  rw [e2, Deaf_push, Deaf_push]
  unfold deafStep
  exact hL.above j (by omega)
end
end Go.Sim

namespace Go.Sim
open Go.Conc
open Go.ConcX (WgAt wgBlock stA smA KK rd wr mk DC0)
open Go.ConcN (sumTo upd sumTo_upd upd_ne upd_same)
/-! the child's silent stretches: it reads what it may -/
def DRd (X : Nat → Prop) (w w' : World) (es : Array Event) : Prop := w' = w ∧ ∀ e ∈ es, yld X w.heap.size e
structure ydr (Wg : Nat) (K : World → Prop) : Prop where
 at_ : ∀ w d, K w → K (w.at d)
 st : ∀ w x, K w → K (w.setCell (stA Wg) x)
 lt : ∀ w, K w → Wg < w.heap.size
section
variable {P : Program} {Done : Array Goroutine → World → Trace → Prop} {X : Nat → Prop} {ty Wg c : Nat} {Shun : Loc → Prop} {Fin Anch : Goroutine → Prop} {Kr : World → Prop} {S : Goroutine → World → Prop}
theorem yik (hKr : ydr Wg Kr) (hX : X Wg) (hS : ∀ l, Shun l → ∃ a, l = .cell a ∧ X a.block) (hc0 : c ≠ 0) (hSr : ∀ g w, S g w → g.status = .running)
  (hAr : ∀ g, Anch g → g.status = .running) (hAn : ∀ g, Anch g → ∃ m, Wk P true (Ka ty Wg) (SW1 P ty Wg Fin Anch) m g)
  (fin : ∀ gs a b w T q sl μ d0, Two P c gs a b T q → CS P ty Wg Fin Anch μ d0 a w → Kr w → S b w → Mid Shun w.heap.size Wg c d0 0 none T → yhp P Done gs w sl T) :
  ∀ (ν : Nat × (Nat × (Nat × Nat))) (a b : Goroutine) (w : World) (T : Trace) (gs : Array Goroutine) (q : Nat → Nat) (sl : Option (Nat × Nat)) (d0 : Nat), Two P c gs a b T q → sumTo c q = ν.1 → Goes P false (RK Kr) (DRd X) S ν.2.1 b w → CS P ty Wg Fin Anch ν.2.2 d0 a w → Kr w → Mid Shun w.heap.size Wg c d0 0 none T →
   yhp P Done gs w sl T := by
 intro ν
 induction ν using (Prod.lex Nat.lt_wfRel (Prod.lex Nat.lt_wfRel (Prod.lex Nat.lt_wfRel Nat.lt_wfRel))).wf.induction with
 |_ ν ih =>
  obtain ⟨M, n, μ⟩ := ν
  intro a b w T gs q sl d0 hT hSum hG hCS hK hM
  simp only at hSum hG hCS
  have rb : b.status = .running := Goes.running hSr w hK hG
  rcases Goes.cases hG with hstop | ⟨n', rfl, hstep⟩
  ·exact fin gs a b w T q sl μ d0 hT hCS hK (hstop w hK) hM
  have hWg : Wg < w.heap.size := hKr.lt w hK
  refine ygn hT (hCS.awake hAr) (awake_of (.inl rb)) (.inr rb) (fun d hra => ?_) (fun d _ => ?_) (fun d i g g' es q' h1 h2 hm hl gs' sl' ht' => ?_)
  ·obtain ⟨a', w', es, μ', e, hev, hw', hl, hCS'⟩ := (hCS.at d).move hAn hra
   refine ⟨a', w', es, e, fun gs' sl' ht' => ?_⟩
   rw [woken_run rb] at ht'
   have hsz : w'.heap.size = w.heap.size := by
    rcases hw' with rfl | ⟨x, rfl⟩
    ·rfl
    ·simp [World.setCell]
     rfl
   have hK' : Kr w' := by
    rcases hw' with rfl | ⟨x, rfl⟩
    ·exact hKr.at_ w d hK
    ·exact hKr.st _ x (hKr.at_ w d hK)
   have hG' : Goes P false (RK Kr) (DRd X) S (n' + 1) b w' := hG.imp (fun x w₁ h₁ => x w₁ h₁) (fun x => ⟨x.1, fun w₁ h₁ => x.2 w₁ h₁⟩)
   refine ih (M, n' + 1, μ') (.right _ (.right _ hl)) a' b w' _ gs' q sl' _ ht' hSum hG' hCS' hK' ?_
   rw [hsz]
   exact hM.own0 hc0 hWg _ _ hev
  ·obtain ⟨b', w', es, e, ⟨rfl, hfine⟩, hG'⟩ := hstep (w.at d) (hKr.at_ w d hK)
   refine ⟨b', _, es, e, fun gs' sl' ht' => ?_⟩
   obtain ⟨μ', hCS'⟩ := hCS.woken (g := b) (g' := b') (w' := w.at d) hAr rfl
   have hdf : deafBehind 0 es = 0 := yjb hfine 0
   refine ih (M, n', μ') (.right _ (.left _ _ (Nat.lt_succ_self n'))) _ b' (w.at d) _ gs' q sl' d0 ht' hSum hG' hCS' (hKr.at_ w d hK) ?_
   exact hM.work hc0 yfg (fun op hop => (ydf hX hS hfine op hop).1) (by rw [Deaf_own, hM.deafc, hdf]) (Nat.le_refl _) (fun op hop => (ydf (Shun := Shun) hX hS hfine op hop).2.1) (fun op hop => (ydf (Shun := Shun) hX hS hfine op hop).2.2)
  ·rw [woken_run rb] at ht'
   obtain ⟨μ', hCS'⟩ := hCS.woken (g := g) (g' := g') (w' := w.at d) hAr rfl
   have hG' : Goes P false (RK Kr) (DRd X) S (n' + 1) b (w.at d) := hG.imp (fun x w₁ h₁ => x w₁ h₁) (fun x => ⟨x.1, fun w₁ h₁ => x.2 w₁ h₁⟩)
   refine ih (sumTo c q', n' + 1, μ') (.left _ _ (by rw [← hSum]; exact hl)) _ b (w.at d) _ gs' q' sl' d0 ht' rfl hG' hCS' (hKr.at_ w d hK) ?_
   exact hM.mute (by omega) (by omega) yfg (fun op hop => (ydg (Wg := Wg) (B := w.heap.size) hm op hop).1) (fun op hop => (ydg (Wg := Wg) hm op hop).2.1) (fun op hop => (ydg (Wg := Wg) (B := w.heap.size) hm op hop).2.2)
end
end Go.Sim

namespace Go.Sim
open Go.Conc
open Go.ConcX (WgAt wgBlock stA smA KK rd wr mk DC0)
open Go.ConcN (sumTo upd sumTo_upd upd_ne upd_same)
/-! ### states below -/
def Down (Q : Program) (s' s : Sta) : Prop := ∃ τ, Nxt Q s τ s'
theorem nxt_fun {Q : Program} {s s1 s2 : Sta} {τ : Nat → Question → Nat} (h1 : Nxt Q s τ s1) (h2 : Nxt Q s τ s2) : s1 = s2 := by
 obtain ⟨⟨e1, h1⟩, _⟩ := h1
 obtain ⟨⟨e2, h2⟩, _⟩ := h2
 rw [h1] at h2
 obtain ⟨f1, i1, v1⟩ := s1
 obtain ⟨f2, i2, v2⟩ := s2
 simp only [GStep.go.injEq] at h2
 obtain ⟨hg, hv, _⟩ := h2
 obtain ⟨hf, hi⟩ := ykt hg
 have := List.append_cancel_right hi
 subst hf this hv
 rfl
theorem tree_acc {Q : Program} {Stop : Frame → World → Prop} {s : Sta} (h : yip Q Stop s) : s.Ok Q → Acc (Down Q) s := by
 induction h using yip.ind with
 |@stop s hm hi h =>
  intro hok
  exact .intro s fun s' ⟨τ, hn⟩ => absurd hi (nxt_ne hok hn hm)
 |@step s nx h ht ih =>
  intro hok
  refine .intro s fun s' ⟨τ, hn⟩ => ?_
  rw [← nxt_fun (h τ) hn]
  exact ih τ (h τ).2
theorem yip.cases' {Q : Program} {Stop : Frame → World → Prop} {s : Sta} (h : yip Q Stop s) : (s.fr.mode = .returning ∧ s.inner = [] ∧ Stop s.fr s.v) ∨ ∀ τ, ∃ s', Nxt Q s τ s' ∧ yip Q Stop s' := by
 cases h using yip.ind with
 |stop hm hi h => exact .inl ⟨hm, hi, h⟩
 |step nx h ht _ => exact .inr fun τ => ⟨nx τ, h τ, ht τ⟩
/-! ### alone beside leavers -/
def yat (P : Program) (Done : Array Goroutine → World → Trace → Prop) (c : Nat) (I : Trace → Nat → Prop) (a : Goroutine) (w : World) : Prop :=
 ∀ gs sl T q, gs.size = c → gs[0]? = some a → Leavers P T gs q → I T w.heap.size → yhp P Done gs w sl T
def ydc (c : Nat) (I : Trace → Nat → Prop) : Prop := ∀ T B i fn pos (es : Array Event), I T B → 0 < i → i < c → (∀ e ∈ es, Event.mute e = true) → I (T ++ MemOp.ofEvents i fn pos es) B
section
variable {P : Program} {Done : Array Goroutine → World → Trace → Prop} {c : Nat} {I I' : Trace → Nat → Prop} {a : Goroutine} {w : World}
theorem yat.step (hI : ydc c I) (hr : a.status = .running)
  (h : ∀ d, ∃ a' w' es, stepG P true a (w.at d) = .go a' w' es ∧ (∀ T fn pos, I T w.heap.size → I' (T ++ MemOp.ofEvents 0 fn pos es) w'.heap.size) ∧ yat P Done c I' a' w') : yat P Done c I a w := by
 intro gs sl T q hc h0 hL hT
 have key : ∀ (M : Nat) (w1 : World) (gs : Array Goroutine) (sl : Option (Nat × Nat)) (T : Trace) (q : Nat → Nat), (∀ d, w1.at d = w.at d) → sumTo gs.size q = M → gs.size = c → gs[0]? = some a → Leavers P T gs q → I T w.heap.size → yhp P Done gs w1 sl T := by
  intro M
  induction M using Nat.strongRecOn with
  |_ M ihM =>
   intro w1 gs sl T q hw1 hM hc h0 hL hT
   refine yym h0 hL hr (fun d sl' => ?_) (fun d i fn pos es q' hi hic hm hl gs' sl' hs h0' hL' => ?_)
   ·rw [hw1]
    obtain ⟨a', w', es, e, hE, hS⟩ := h d
    refine own_step h0 hL e sl' (fun gs' hs h0' hL' => ?_)
    exact hS gs' sl' _ q (hs.trans hc) h0' hL' (hE T _ _ hT)
   ·exact ihM (sumTo gs.size q') (by omega) (w1.at d) gs' sl' _ q' (fun d' => by rw [show (w1.at d).at d' = w1.at d' from rfl]; exact hw1 d') (by rw [hs]) (hs.trans hc) h0' hL' (hI T _ i fn pos es hT hi (by omega) hm)
 exact key _ w gs sl T q (fun _ => rfl) rfl hc h0 hL hT
theorem yat.spawn (hI : ydc c I) (hr : a.status = .running)
  (h : ∀ d, ∃ a' child w', stepG P true a (w.at d) = .spawn a' child w' #[] ∧ w'.heap.size = w.heap.size ∧ ∀ gs' sl' T T' q (x y : MemOp), I T w.heap.size → Deaf T c = 0 → T' = (T.push x).push y → x.g = 0 → x.act = .go c → y.g = c → y.act = .start → Two P c gs' a' child T' q → yhp P Done gs' w' sl' T') : yat P Done c I a w := by
 intro gs sl T q hc h0 hL hT
 have key : ∀ (M : Nat) (w1 : World) (gs : Array Goroutine) (sl : Option (Nat × Nat)) (T : Trace) (q : Nat → Nat), (∀ d, w1.at d = w.at d) → sumTo gs.size q = M → gs.size = c → gs[0]? = some a → Leavers P T gs q → I T w.heap.size → yhp P Done gs w1 sl T := by
  intro M
  induction M using Nat.strongRecOn with
  |_ M ihM =>
   intro w1 gs sl T q hw1 hM hc h0 hL hT
   refine yym h0 hL hr (fun d sl' => ?_) (fun d i fn pos es q' hi hic hm hl gs' sl' hs h0' hL' => ?_)
   ·rw [hw1]
    obtain ⟨a', ch, w', e, hsz, hS⟩ := h d
    refine spawn_step h0 hL e sl' (fun gs' T' x y hT' h1 h2 h3 h4 h5 => ?_)
    rw [hc] at h2 h3 h5
    exact hS gs' sl' T T' q x y hT (hL.above c (by omega)) hT' h1 h2 h3 h4 h5
   ·exact ihM (sumTo gs.size q') (by omega) (w1.at d) gs' sl' _ q' (fun d' => by rw [show (w1.at d).at d' = w1.at d' from rfl]; exact hw1 d') (by rw [hs]) (hs.trans hc) h0' hL' (hI T _ i fn pos es hT hi (by omega) hm)
 exact key _ w gs sl T q (fun _ => rfl) rfl hc h0 hL hT
end
section
variable {Shun : Loc → Prop} {X : Nat → Prop}
theorem yhf {c : Nat} : ydc c (fun T B => Past Shun B T) := fun T B i fn pos es h hi _ hm => h.mute (g := i) (by omega) hm
theorem yva {Wg d0 c : Nat} : ydc c (fun T B => Pre Shun B Wg d0 T) := fun T B i fn pos es h hi _ hm =>
 h.mute (g := i) (by omega) yfg (fun op hop => (ydg (Wg := Wg) (B := B) hm op hop).1) (fun op hop => (ydg (Wg := Wg) hm op hop).2.1) (fun op hop => (ydg (Wg := Wg) (B := B) hm op hop).2.2)
theorem Pre.mono {B B' Wg d0 : Nat} {T : Trace} (h : Pre Shun B Wg d0 T) (hB : B ≤ B') : Pre Shun B' Wg d0 T := ⟨h.clean, h.known, h.over, h.deaf0, fun op hop => MemAct.low_mono hB (h.seen op hop), h.hush, h.norel⟩
theorem yjo {B B' : Nat} {T : Trace} (hS : ∀ l, Shun l → ∃ a, l = .cell a ∧ X a.block) (h : Past Shun B T) (hB : B ≤ B') {es : Array Event} (he : ∀ e ∈ es, yld X B' e) (fn : FuncId) (pos : String) : Past Shun B' (T ++ MemOp.ofEvents 0 fn pos es) := by
 have he' : ∀ e ∈ es, yld (fun b => X b ∨ b = B') B' e := by
  intro e hm
  have := he e hm
  obtain ⟨loc, x, y⟩ := e
  cases loc with
  |cell a => exact ⟨fun x => x.elim this.1 (fun y => by have := this.2; omega), this.2⟩
  |obj r => exact ⟨fun x => x.elim this.1 (fun y => by have := this.2; omega), this.2⟩
  |mark m => exact this
  |output => trivial
  |goroutines => exact this.elim
 have hS' : ∀ l, Shun l → ∃ a, l = .cell a ∧ (X a.block ∨ a.block = B') := fun l hl => by
  obtain ⟨a, ha, hx⟩ := hS l hl
  exact ⟨a, ha, .inl hx⟩
 have ho := ydf (Wg := B') (Shun := Shun) (g := 0) (fn := fn) (pos := pos) (.inr rfl) hS' he'
 refine (h.mono hB).app0 yfg (fun op hop b hb => (((ho op hop).1 b hb).1)) ?_ (fun op hop => (ho op hop).2.1)
 rw [Deaf_own, h.hears]
 exact yjb he 0
theorem pre_fine {B B' Wg d0 : Nat} {T : Trace} (hX : X Wg) (hS : ∀ l, Shun l → ∃ a, l = .cell a ∧ X a.block) (h : Pre Shun B Wg d0 T) (hB : B ≤ B') {es : Array Event} (he : ∀ e ∈ es, yld X B' e) (fn : FuncId) (pos : String) : Pre Shun B' Wg d0 (T ++ MemOp.ofEvents 0 fn pos es) := by
 have ho := ydf (Shun := Shun) (g := 0) (fn := fn) (pos := pos) hX hS he
 refine (h.mono hB).app0 yfg (fun op hop b hb => ⟨((ho op hop).1 b hb).1, fun hw => absurd hw ((ho op hop).1 b hb).2⟩) ?_ (fun op hop => (ho op hop).2.1) (fun op hop => (ho op hop).2.2)
 rw [Deaf_own, h.deaf0]
 exact yjb he d0
end
end Go.Sim

namespace Go.Sim
open Go.Conc
def Dead (Q : Program) (f : Nat) : Prop := ∃ fn why, Q.funcs[f]? = some fn ∧ fn.body = some (.refuse why)
theorem yry {Q : Program} {Stop : Frame → World → Prop} {s : Sta} {f : Nat} {args : Array Value} (h : yip Q Stop s) (hd : Dead Q f) (hs : s.fr = Frame.enter Q f args .normal) : False := by
 obtain ⟨fn, why, hq, hb⟩ := hd
 have hm : s.fr.mode = .run := by rw [hs]; rfl
 have ht : s.fr.todo = [.code (.refuse why)] := by rw [hs]; simp [Frame.enter, hq, hb]
 rcases h.cases' with ⟨hr, _, _⟩ | hn
 ·rw [hr] at hm; cases hm
 ·obtain ⟨s', ⟨⟨es, e⟩, _⟩, _⟩ := hn (fun _ _ => 0)
  rw [yge Q true _ hm] at e
  unfold stepG.exec at e
  simp only [ht] at e
  cases e
structure ymj (X : Nat → Prop) (W w : World) : Prop where
 size : W.heap.size ≤ w.heap.size
 odd : ∀ (b : Nat) (o : Obj), W.heap[b]? = some o → w.heap[b]? = some o ∨ ∃ o' : Obj, w.heap[b]? = some o' ∧ o'.fit = true
 new : ∀ b, X b → W.heap.size ≤ b
theorem ymj.refl (W : World) : ymj (fun _ => False) W W := ⟨Nat.le_refl _, fun _ _ h => .inl h, fun _ h => h.elim⟩
theorem ymj.grows {X Y : Nat → Prop} {W w w' : World} (h : ymj X W w) (g : ycq Y w w') : ymj X W w' := ⟨Nat.le_trans h.size g.size, fun b o ho => by
 rcases h.odd b o ho with e | ⟨o', e, hf⟩
 ·exact g.odd b o e
 ·rcases g.odd b o' e with e2 | e2
  ·exact .inr ⟨o', e2, hf⟩
  ·exact .inr e2, h.new⟩
theorem ymj.of_heap {X : Nat → Prop} {W w w' : World} (h : ymj X W w) (e : w'.heap = w.heap) : ymj X W w' := ⟨by rw [e]; exact h.size, by rw [e]; exact h.odd, h.new⟩
theorem ymj.at {X : Nat → Prop} {W w : World} (h : ymj X W w) (d : Nat) : ymj X W (w.at d) := h.of_heap rfl
theorem ymj.setCell {X : Nat → Prop} {W w : World} (h : ymj X W w) (a : Addr) (x : Value) : ymj X W (w.setCell a x) := h.grows (Y := fun _ => False) (ywv (fun h => h) x)
theorem ymj.push {X : Nat → Prop} {W w : World} (h : ymj X W w) (o : Obj) : ymj (fun b => X b ∨ b = w.heap.size) W { w with heap := w.heap.push o } := by
 refine ⟨by have := h.size; simp; omega, fun b x hx => ?_, fun b hb => hb.elim (h.new b) (fun e => e ▸ h.size)⟩
 have hne : b ≠ w.heap.size := by have := (Array.getElem?_eq_some_iff.1 hx).1; have := h.size; omega
 show (w.heap.push o)[b]? = _ ∨ ∃ o' : Obj, (w.heap.push o)[b]? = _ ∧ _
 simp only [Array.getElem?_push, hne, if_false]
 exact h.odd b x hx
def Ended (P : Program) (Stop : Frame → World → Prop) (W : World) (gs : Array Goroutine) (w : World) (T : Trace) : Prop :=
 ∃ (fr : Frame) (v : World) (X : Nat → Prop) (Shun : Loc → Prop) (q : Nat → Nat), gs[0]? = some (gor fr []) ∧ fr.mode = .returning ∧ fr.defers = [] ∧ fr.kind = .normal ∧ Leavers P T gs q ∧ Past Shun w.heap.size T ∧ yfs X w v ∧ ymj X W w ∧ (∀ l, Shun l → ∃ a, l = .cell a ∧ X a.block) ∧ Stop fr v
def Carries (P : Program) (Stop : Frame → World → Prop) (W : World) (s : Sta) : Prop :=
 ∀ (X : Nat → Prop) (Shun : Loc → Prop) (c : Nat) (w : World), 0 < c → (∀ l, Shun l → ∃ a, l = .cell a ∧ X a.block) → yfs X w s.v → ymj X W w → yat P (Ended P Stop W) c (fun T B => Past Shun B T) (gor s.fr s.inner) w
def Sta.Strict (Q : Program) (s : Sta) : Prop := yml Q (ydo Q) yca s.fr ∧ OkCs Q (ydo Q) yca s.inner
def ytk (P Q : Program) (Stop : Frame → World → Prop) (W : World) (F : Nat) : Prop :=
 ∀ (s : Sta) (args : Array Value) (cf : Frame) (inner : List Frame), yip Q Stop s → s.Ok Q → s.fr = Frame.enter Q F args .normal → s.inner = cf :: inner → OkCs Q (ydo Q) yca (cf :: inner) → (∀ s', Relation.TransGen (Down Q) s' s → yip Q Stop s' → s'.Ok Q → s'.Strict Q → Carries P Stop W s') →
  ∀ (X : Nat → Prop) (Shun : Loc → Prop) (c : Nat) (w : World), 0 < c → (∀ l, Shun l → ∃ a, l = .cell a ∧ X a.block) → yfs X w s.v → ymj X W w → yat P (Ended P Stop W) c (fun T B => Past Shun B T) (gor (Frame.enter P F args .normal) s.inner) w
section
variable {P Q : Program} {Stop : Frame → World → Prop} {Z D : Nat → Prop} {F : Nat}
theorem carry (T : yqz P Q (ydo Q) (fun _ => True) Z D yca) (hZ : ∀ f, Z f → Dead Q f) {Fs : Nat → Prop} (hD : ∀ f, D f → Fs f ∨ Dead Q f) {W : World} (hF : ∀ F, Fs F → ytk P Q Stop W F) {s : Sta} (ht : yip Q Stop s) (hok : s.Ok Q) (hst : s.Strict Q) : Carries P Stop W s := by
 have hacc := (tree_acc ht hok).transGen
 induction hacc with
 |intro s _ ih =>
  intro X Shun c w hc hS hSm hK
  rcases ht.cases' with ⟨hm, hi, hst⟩ | hn
  ·intro gs sl Tr q hgs h0 hL hT
   exact yhp.now ⟨s.fr, s.v, X, Shun, q, by rw [h0, hi], hm, hok.fr.defers, hok.fr.kind, hL, hT, hSm, hK, hS, hst⟩
  ·have hne : s.fr.mode = .returning → s.inner ≠ [] := by
    obtain ⟨s', hs', _⟩ := hn (fun _ _ => 0)
    exact nxt_ne hok hs'
   refine yat.step (I' := fun T B => Past Shun B T) yhf rfl fun d => ?_
   have hSd := hSm.at d
   obtain ⟨s', hs', htr⟩ := hn (ybt (w.at d) s.v.drawn)
   have hdn : Relation.TransGen (Down Q) s' s := .single ⟨_, hs'⟩
   have hok' := hs'.2
   obtain ⟨es, e⟩ := hs'.1
   have hR := hSd.rel s'.v.drawn
   have tr : ∀ {w' : World} {es' : Array Event}, ycq X (w.at d) w' → (∀ e ∈ es', yld X w'.heap.size e) → ∀ (Tr : Trace) fn pos, Past Shun w.heap.size Tr → Past Shun w'.heap.size (Tr ++ MemOp.ofEvents 0 fn pos es') :=
    fun {w' es'} hg hf Tr fn pos h => yjo hS h hg.size hf fn pos
   rcases zez (m := true) (sP := []) (sQ := [ydu]) T hst.1 hok.mode hst.2 hne hR e (Nat.le_refl _) with ⟨f, args, hr, hz, hg'⟩ | ⟨w', es', hR', hsz, hfine, hcase⟩ | ⟨fr', ch, hp, _, hg'⟩
   ·exact (yry htr (hZ f hz) (congrArg Goroutine.frame hg')).elim
   ·rcases hcase with ⟨fr', inner', hf', hm', hc', hg', hP⟩ | ⟨f, args, hr, hd, _, hg', hP⟩
    ·have efr : s'.fr = fr' := congrArg Goroutine.frame hg'
     have ein : s'.inner = inner' := List.append_cancel_right (congrArg Goroutine.callers hg')
     simp only [List.append_nil] at hP
     refine ⟨_, w', es', hP, tr hsz hfine, ?_⟩
     rw [← efr, ← ein]
     exact ih s' hdn htr hok' ⟨by rw [efr]; exact hf', by rw [ein]; exact hc'⟩ X Shun c w' hc hS hR'.world ((hK.at d).grows hsz)
    ·have efr : s'.fr = Frame.enter Q f args .normal := congrArg Goroutine.frame hg'
     have ein : s'.inner = s.fr :: s.inner := List.append_cancel_right (bs := [ydu]) (congrArg Goroutine.callers hg')
     have hcs : OkCs Q (ydo Q) yca (s.fr :: s.inner) := fun c hcm => by
      rcases List.mem_cons.1 hcm with rfl | hcm
      ·exact ⟨hst.1, (hok'.cs s.fr (by rw [ein]; exact List.mem_cons_self ..)).2⟩
      ·exact hst.2 c hcm
     rcases hD f hd with hff | hdd
     ·simp only [List.append_nil] at hP
      refine ⟨_, w', es', hP, tr hsz hfine, ?_⟩
      rw [← ein]
      exact hF f hff s' args s.fr s.inner htr hok' efr ein hcs (fun s2 h2 => ih s2 (h2.trans hdn)) X Shun c w' hc hS hR'.world ((hK.at d).grows hsz)
     ·exact (yry htr hdd efr).elim
   ·have efr : s'.fr = fr' := congrArg Goroutine.frame hg'
    rw [← efr] at hp
    rcases hok'.mode with x | x <;> (rw [x] at hp; cases hp)
end
end Go.Sim

namespace Go.Sim
open Go.Conc Go.RowKit
def Bel (Q : Program) (Stop : Frame → World → Prop) (s0 s : Sta) : Prop := yip Q Stop s ∧ s.Ok Q ∧ (s = s0 ∨ Relation.TransGen (Down Q) s s0)
structure Org where
 s : Sta
 W : World
section
variable {P Q : Program} {Stop : Frame → World → Prop} {s0 : Org} {X : Nat → Prop} {w : World} {fr fr' : Frame} {inner : List Frame}
theorem Bel.next {s s' : Sta} {τ : Nat → Question → Nat} {r : Sta} (h : Bel Q Stop r s) (hn : Nxt Q s τ s') (ht : yip Q Stop s') : Bel Q Stop r s' := by
 refine ⟨ht, hn.2, .inr ?_⟩
 rcases h.2.2 with rfl | hb
 ·exact .single ⟨τ, hn⟩
 ·exact .trans (.single ⟨τ, hn⟩) hb
def QAt (Q : Program) (Stop : Frame → World → Prop) (s0 : Org) (X : Nat → Prop) (w : World) (fr : Frame) (inner : List Frame) : Prop := ∃ v, Bel Q Stop s0.s ⟨fr, inner, v⟩ ∧ yfs X w v ∧ ymj X s0.W w
theorem QAt.at (h : QAt Q Stop s0 X w fr inner) (d : Nat) : QAt Q Stop s0 X (w.at d) fr inner := by
 obtain ⟨v, hb, hs, hk⟩ := h
 exact ⟨v, hb, hs.at d, hk.at d⟩
theorem QAt.step (hm : fr.mode = .run) (h : QAt Q Stop s0 X w fr inner) : ∃ v s', Bel Q Stop s0.s ⟨fr, inner, v⟩ ∧ yfs X w v ∧ ymj X s0.W w ∧ Nxt Q ⟨fr, inner, v⟩ (ybt w v.drawn) s' ∧ Bel Q Stop s0.s s' := by
 obtain ⟨v, hb, hs, hk⟩ := h
 rcases hb.1.cases' with ⟨hr, _, _⟩ | hn
 ·have hr : fr.mode = .returning := hr
  rw [hr] at hm; cases hm
 ·obtain ⟨s', hn, ht⟩ := hn (ybt w v.drawn)
  exact ⟨v, s', hb, hs, hk, hn, hb.next hn ht⟩
theorem QAt.ctrl (hm : fr.mode = .run) (hstep : ∀ v, stepG Q true (gor fr (inner ++ [ydu])) v = .go (gor fr' (inner ++ [ydu])) v #[]) (h : QAt Q Stop s0 X w fr inner) : QAt Q Stop s0 X w fr' inner := by
 obtain ⟨v, s', hb, hs, hK, ⟨⟨es, e⟩, hok⟩, hb'⟩ := h.step hm
 rw [hstep] at e
 simp only [GStep.go.injEq] at e
 obtain ⟨hg, hv, _⟩ := e
 obtain ⟨hf, hi⟩ := ykt hg
 have hi2 := List.append_cancel_right hi
 clear hi
 obtain ⟨f', i', v'⟩ := s'
 simp only at hf hi2 hv
 subst hf hi2 hv
 exact ⟨_, hb', ⟨hs.size, hs.same, hs.bare, hs.os, hs.output⟩, hK⟩
section
variable {b : Frame} {a : Act} {k : List Item}
theorem QAt.seq {x y : Code} (h : QAt Q Stop s0 X w (b.at a (.code (.seq x y) :: k)) inner) : QAt Q Stop s0 X w (b.at a (.code x :: .code y :: k)) inner := h.ctrl rfl fun _ => stepG_seq
theorem QAt.skip (h : QAt Q Stop s0 X w (b.at a (.code .skip :: k)) inner) : QAt Q Stop s0 X w (b.at a k) inner := h.ctrl rfl fun _ => stepG_skip
theorem QAt.region {id : Nat} {ops : Array Oper} (h : QAt Q Stop s0 X w (b.at a (.code (.region id ops false) :: k)) inner) : QAt Q Stop s0 X w (b.at a (.inRegion ops (List.range ops.size) :: k)) inner := h.ctrl rfl fun _ => stepG_region
theorem QAt.regionEnd {ops : Array Oper} (h : QAt Q Stop s0 X w (b.at a (.inRegion ops [] :: k)) inner) : QAt Q Stop s0 X w (b.at a k) inner := h.ctrl rfl fun _ => stepG_region_end
theorem QAt.ret (h : QAt Q Stop s0 X w (b.at a (.code .ret :: k)) inner) : QAt Q Stop s0 X w { b.at a (.code .ret :: k) with mode := .returning } inner := h.ctrl rfl fun _ => stepG_ret'
theorem QAt.cond {c : Operand} {x y : Code} (h : QAt Q Stop s0 X w (b.at a (.code (.cond c x y) :: k)) inner) : ∃ t, a.eval c = .bool t ∧ QAt Q Stop s0 X w (b.at a (.code (if t then x else y) :: k)) inner := by
 cases he : a.eval c with
 |bool t => exact ⟨t, rfl, h.ctrl rfl fun _ => stepG_cond he⟩
 |_ =>
  exfalso
  obtain ⟨v, s', hb, hs, hK, ⟨⟨es, e⟩, hok⟩, hb'⟩ := h.step rfl
  have he' : (b.at a (.code (.cond c x y) :: k)).eval c = _ := (Frame.eval_at ..).trans he
  rw [yge Q true _ rfl] at e
  unfold stepG.exec at e
  simp only [Frame.at] at e he'
  simp only [he'] at e
  cases e
theorem QAt.refuse {m : String} (h : QAt Q Stop s0 X w (b.at a (.code (.refuse m) :: k)) inner) : False := by
 obtain ⟨v, s', hb, hs, hK, ⟨⟨es, e⟩, hok⟩, hb'⟩ := h.step rfl
 rw [yge Q true _ rfl] at e
 unfold stepG.exec at e
 simp only [Frame.at] at e
 cases e
end
/-! ### operations -/
def yee : Op → Bool
 |.move _ | .assign _ | .alloc _ | .box .. | .makeSlice .. | .load .. | .store .. | .indexAddr .. | .binOp .. | .makeFunc .. => true
 |.call c => match c.callee with
  |.builtin .len => true
  |_ => false
 |_ => false
def ywd (a : Next) : Prop := (∃ x, a = .value x) ∨ a = .skip
theorem ydq {s : Sem Value} : yaq Q ywd (do pure (.value (← s))) := yaq.bind fun x => yaq.pure (.inl ⟨x, rfl⟩)
theorem plainN_skip {s : Sem Unit} : yaq Q ywd (do s; pure .skip) := yaq.bind fun _ => yaq.pure (.inr rfl)
theorem yef {ρ : Operand → Value} {o : Oper} (h : yee o.op = true) : yaq Q ywd (execOp ρ o) := by
 unfold execOp
 dsimp only
 cases ho : o.op <;> rw [ho] at h <;> first | (cases h; done) | skip
 all_goals dsimp only
 all_goals first | exact ydq | exact plainN_skip | exact yaq.pure (.inl ⟨_, rfl⟩) | skip
 case call c =>
  unfold resolve
  cases hc : c.callee with
  |builtin bb =>
   simp only [yee, hc] at h
   cases bb <;> first | (cases h; done) | skip
   intro v a v' e
   exact ydq v a v' (pb e)
  |value _ => simp [yee, hc] at h
  |invoke _ _ => simp [yee, hc] at h
theorem ygi {o : Oper} (h : o.guard = none) (y : Nat → Option Bool) : Region.wanted o y = true := by unfold Region.wanted; rw [h]
theorem yij {p : Program} {m : Bool} {b : Frame} {a : Act} {ops : Array Oper} {i : Nat} {rest : List Nat} {k : List Item} {cs : List Frame} {o : Oper} (w : World) (ho : ops[i]? = some o) (hg : o.guard = none) :
  stepG p m (gor (b.at a (.inRegion ops (i :: rest) :: k)) cs) w = stepG.apply p true (b.at a (.inRegion ops (i :: rest) :: k)) cs none (execOp a.eval o) w := by
 rw [yge p m w rfl]
 have hop : (b.at a (.inRegion ops (i :: rest) :: k)).oper? = some o := ho
 unfold stepG.exec
 simp only [Frame.at, ho, Option.map_some, ygi hg, Option.getD_some, if_true]
 unfold stepG.oper
 simp only [Frame.at] at hop
 simp only [hop]
 have := Frame.eval_at' b a (.inRegion ops (i :: rest) :: k)
 simp only [Frame.at] at this
 rw [this]
variable {Z D : Nat → Prop}
theorem QAt.opG {bQ bP : Frame} {aQ aP : Act} {opsQ opsP : Array Oper} {i j : Nat} {restQ restP : List Nat} {kQ kP : List Item} {oQ oP : Oper} (hnQ : bQ.kind = .normal) (hnP : bP.kind = .normal)
  (hoQ : opsQ[i]? = some oQ) (hgQ : oQ.guard = none) (hoP : opsP[j]? = some oP) (hgP : oP.guard = none) (hsem : execOp aP.eval oP = execOp aQ.eval oQ) (hsim : ∀ L v, Rel X L w v → ybj X L (EscZ Z) w #[] ((execOp aQ.eval oQ).runT P w #[]) ((execOp aQ.eval oQ).run Q v)) (hpl : yaq Q ywd (execOp aQ.eval oQ))
  (h : QAt Q Stop s0 X w (bQ.at aQ (.inRegion opsQ (i :: restQ) :: kQ)) inner) (m : Bool) (cs : List Frame) :
  ∃ x w' es, stepG P m (gor (bP.at aP (.inRegion opsP (j :: restP) :: kP)) cs) w = .go (gor (bP.at (aP.put oP.dst x) (.inRegion opsP restP :: kP)) cs) w' es ∧ (∀ e ∈ es, yld X w'.heap.size e) ∧ ycq X w w' ∧
   QAt Q Stop s0 X w' (bQ.at (aQ.put oQ.dst x) (.inRegion opsQ restQ :: kQ)) inner ∧ ∃ v v' a, yfs X w v ∧ yfs X w' v' ∧ (execOp aQ.eval oQ).run Q v = .ok a v' ∧ (a = .value x ∨ a = .skip) := by
 obtain ⟨v, s', hb, hs, hK, ⟨⟨es, e⟩, hok'⟩, hb'⟩ := h.step rfl
 rw [yij _ hoQ hgQ] at e
 have hR := hs.rel s'.v.drawn
 have hp := hsim _ (v.tp (ybt w v.drawn)) hR
 have hq := yig Q (execOp aQ.eval oQ) (v.tp (ybt w v.drawn)) #[]
 have hend := hpl (v.tp (ybt w v.drawn))
 generalize eQ : (execOp aQ.eval oQ).runT Q (v.tp (ybt w v.drawn)) #[] = rQ at hq
 obtain ⟨r, esQ⟩ := rQ
 dsimp only at hq
 rw [← hq] at hp hend
 have fin : ∀ x v1 w1 new, stepG.apply Q true (bQ.at aQ (.inRegion opsQ (i :: restQ) :: kQ)) (inner ++ [ydu]) none (execOp aQ.eval oQ) (v.tp (ybt w v.drawn)) = .go (gor ((bQ.at aQ (.inRegion opsQ (i :: restQ) :: kQ)).finish x) (inner ++ [ydu])) v1 (seen Q bQ.fn esQ) →
   stepG.apply P true (bP.at aP (.inRegion opsP (j :: restP) :: kP)) cs none (execOp aQ.eval oQ) w = .go (gor ((bP.at aP (.inRegion opsP (j :: restP) :: kP)).finish x) cs) w1 (seen P bP.fn new) → yfs X w1 v1 → ycq X w w1 → (∀ e ∈ new, yld X w1.heap.size e) →
   (∃ v v' a, yfs X w v ∧ yfs X w1 v' ∧ (execOp aQ.eval oQ).run Q v = .ok a v' ∧ (a = .value x ∨ a = .skip)) →
   ∃ x w' es, stepG P m (gor (bP.at aP (.inRegion opsP (j :: restP) :: kP)) cs) w = .go (gor (bP.at (aP.put oP.dst x) (.inRegion opsP restP :: kP)) cs) w' es ∧ (∀ e ∈ es, yld X w'.heap.size e) ∧ ycq X w w' ∧
   QAt Q Stop s0 X w' (bQ.at (aQ.put oQ.dst x) (.inRegion opsQ restQ :: kQ)) inner ∧ ∃ v v' a, yfs X w v ∧ yfs X w' v' ∧ (execOp aQ.eval oQ).run Q v = .ok a v' ∧ (a = .value x ∨ a = .skip) := by
  intro x v1 w1 new h1 h2 h3 h4 h5 h6
  rw [h1] at e
  simp only [GStep.go.injEq] at e
  obtain ⟨hg, hv, _⟩ := e
  obtain ⟨hf, hi⟩ := ykt hg
  have hi2 := List.append_cancel_right hi
  clear hi
  obtain ⟨f', i', v'⟩ := s'
  simp only at hf hi2 hv
  subst hf hi2 hv
  refine ⟨x, w1, seen P bP.fn new, ?_, yha h5, h4, ⟨v1, ?_, h3, hK.grows h4⟩, h6⟩
  ·rw [yij _ hoP hgP, hsem, h2, Frame.finish_at, hoP]; rfl
  ·rw [Frame.finish_at, hoQ] at hb'; exact hb'
 cases r with
 |ok a v1 =>
  have hdr : v1.drawn ≤ s'.v.drawn := by
   rcases hend a v1 rfl with ⟨x, rfl⟩ | rfl
   ·rw [ydi (fr := bQ.at aQ (.inRegion opsQ (i :: restQ) :: kQ)) hnQ eQ] at e; simp only [GStep.go.injEq] at e; rw [e.2.1]; exact Nat.le_refl _
   ·rw [ygv (fr := bQ.at aQ (.inRegion opsQ (i :: restQ) :: kQ)) hnQ eQ] at e; simp only [GStep.go.injEq] at e; rw [e.2.1]; exact Nat.le_refl _
  rcases hend a v1 rfl with ⟨x, rfl⟩ | rfl
  ·rcases hp hdr with q | ⟨w1, new, e1, hR1, hz, hfn⟩
   ·cases q
   ·rw [Array.empty_append] at e1
    exact fin x v1 w1 new (ydi (fr := bQ.at aQ (.inRegion opsQ (i :: restQ) :: kQ)) hnQ eQ) (ydi (fr := bP.at aP (.inRegion opsP (j :: restP) :: kP)) hnP e1) hR1.world hz hfn ⟨_, _, _, hR.world, hR1.world, hq.symm, .inl rfl⟩
  ·rcases hp hdr with q | ⟨w1, new, e1, hR1, hz, hfn⟩
   ·cases q
   ·rw [Array.empty_append] at e1
    exact fin undef v1 w1 new (ygv (fr := bQ.at aQ (.inRegion opsQ (i :: restQ) :: kQ)) hnQ eQ) (ygv (fr := bP.at aP (.inRegion opsP (j :: restP) :: kP)) hnP e1) hR1.world hz hfn ⟨_, _, _, hR.world, hR1.world, hq.symm, .inr rfl⟩
 |halt y v1 =>
  exfalso
  cases y with
  |panic x =>
   rw [you (fr := bQ.at aQ (.inRegion opsQ (i :: restQ) :: kQ)) hnQ eQ] at e
   simp only [GStep.go.injEq] at e
   have hf : (bQ.at aQ (.inRegion opsQ (i :: restQ) :: kQ)).raise [{ v := x, recovered := false }] = s'.fr := (ykt e.1).1
   have hm : s'.fr.mode = .panicking [{ v := x, recovered := false }] := by rw [← hf]; rfl
   rcases hok'.mode with q | q <;> (rw [q] at hm; cases hm)
  |_ =>
   have hk := (hp (yot eQ e)).1
   obtain ⟨o, u, l, e1⟩ := ymm (fr := bQ.at aQ (.inRegion opsQ (i :: restQ) :: kQ)) (cs := inner ++ [ydu]) (by exact hk) eQ
   rw [e1] at e
   cases e
theorem QAt.op (T : yqz P Q (ydo Q) (fun _ => True) Z D yca) {bQ bP : Frame} {aQ aP : Act} {opsQ opsP : Array Oper} {i j : Nat} {restQ restP : List Nat} {kQ kP : List Item} {oQ oP : Oper} (hnQ : bQ.kind = .normal) (hnP : bP.kind = .normal)
  (hoQ : opsQ[i]? = some oQ) (hgQ : oQ.guard = none) (hoP : opsP[j]? = some oP) (hgP : oP.guard = none) (hsem : execOp aP.eval oP = execOp aQ.eval oQ) (hok : ydo Q oQ.op = true) (hpl : yee oQ.op = true)
  (h : QAt Q Stop s0 X w (bQ.at aQ (.inRegion opsQ (i :: restQ) :: kQ)) inner) (m : Bool) (cs : List Frame) :
  ∃ x w' es, stepG P m (gor (bP.at aP (.inRegion opsP (j :: restP) :: kP)) cs) w = .go (gor (bP.at (aP.put oP.dst x) (.inRegion opsP restP :: kP)) cs) w' es ∧ (∀ e ∈ es, yld X w'.heap.size e) ∧ ycq X w w' ∧
   QAt Q Stop s0 X w' (bQ.at (aQ.put oQ.dst x) (.inRegion opsQ restQ :: kQ)) inner ∧ ∃ v v' a, (execOp aQ.eval oQ).run Q v = .ok a v' ∧ (a = .value x ∨ a = .skip) := by
 obtain ⟨x, w', es, h1, h2, h3, h4, v, v', a, _, _, h5⟩ := QAt.opG (Z := Z) hnQ hnP hoQ hgQ hoP hgP hsem (fun L v hR => by have := T.ops X (bQ.at aQ []) oQ hok; rw [Frame.eval_at'] at this; exact this L w v #[] hR) (yef hpl) h m cs
 exact ⟨x, w', es, h1, h2, h3, h4, v, v', a, h5⟩
end
end Go.Sim
