/- The seat: the numbers of its functions and types. -/
import Derived.Test.YtaelaldmibgibaaGreatDoorProg
import Derived.Test.YtaelaldmibgibaaGreatDoorX23

set_option linter.all false

namespace Go.Proofs.K
open Go.Sim Go.Conc.Lib
def link : WgLink := { add := 124, done := 127, wait := 77, relMerge := 180, disable := 130, enable := 132, inBubble := 138, associate := 181, fatal := 182, uOr := 183, uAdd := 184, raceRead := 185, uLoad := 131, uStore := 186, disassociate := 136, semrelease := 187, acquire := 133, isAssociated := 134, uCas := 135, raceWrite := 137, semacquire := 139, orU64 := 210, addU64 := 211, loadU64 := 188, storeU64 := 212, casU64 := 189, tWgP := 210, tUP := 215, tAssoc := 256, tWg := 150, tAU := 147, tU64 := 145, tUint := 213, tU32 := 148, tPU32 := 219, tPAU := 261, tPU64 := 263, tNoCopy := 142, tANoCopy := 143, tAlign64 := 144 }
theorem wgLib : WgLib Tryz.prog link :=
 ⟨Tryz.func124, Tryz.func127, Tryz.func77, Tryz.func180, Tryz.func130, Tryz.func132, Tryz.func138, Tryz.func181, Tryz.func182, Tryz.func183, Tryz.func184, Tryz.func185, Tryz.func131, Tryz.func186, Tryz.func136, Tryz.func187, Tryz.func133, Tryz.func134, Tryz.func135, Tryz.func137, Tryz.func139, Tryz.func210, Tryz.func211, Tryz.func188, Tryz.func212, Tryz.func189, Tryz.underlying210, Tryz.runUnderlying210, Tryz.sizeOf210, Tryz.isAgg210, Tryz.zeroValue210, Tryz.underlying215, Tryz.runUnderlying215, Tryz.sizeOf215, Tryz.isAgg215, Tryz.zeroValue215, Tryz.underlying256, Tryz.runUnderlying256, Tryz.sizeOf256, Tryz.isAgg256, Tryz.zeroValue256, Tryz.underlying150, Tryz.runUnderlying150, Tryz.sizeOf150, Tryz.isAgg150, Tryz.zeroValue150, Tryz.underlying147, Tryz.runUnderlying147, Tryz.sizeOf147, Tryz.isAgg147, Tryz.zeroValue147, Tryz.underlying145, Tryz.runUnderlying145, Tryz.sizeOf145, Tryz.isAgg145, Tryz.zeroValue145, Tryz.underlying213, Tryz.runUnderlying213, Tryz.sizeOf213, Tryz.isAgg213, Tryz.zeroValue213, Tryz.underlying148, Tryz.runUnderlying148, Tryz.sizeOf148, Tryz.isAgg148, Tryz.zeroValue148, Tryz.underlying219, Tryz.runUnderlying219, Tryz.sizeOf219, Tryz.isAgg219, Tryz.zeroValue219, Tryz.underlying261, Tryz.runUnderlying261, Tryz.sizeOf261, Tryz.isAgg261, Tryz.zeroValue261, Tryz.underlying263, Tryz.runUnderlying263, Tryz.sizeOf263, Tryz.isAgg263, Tryz.zeroValue263, Tryz.underlying0, Tryz.runUnderlying0, Tryz.sizeOf0, Tryz.isAgg0, Tryz.zeroValue0, Tryz.underlying3, Tryz.runUnderlying3, Tryz.sizeOf3, Tryz.isAgg3, Tryz.zeroValue3, Tryz.underlying4, Tryz.runUnderlying4, Tryz.sizeOf4, Tryz.isAgg4, Tryz.zeroValue4, Tryz.underlying9, Tryz.runUnderlying9, Tryz.sizeOf9, Tryz.isAgg9, Tryz.zeroValue9, Tryz.underlying20, Tryz.runUnderlying20, Tryz.sizeOf20, Tryz.isAgg20, Tryz.zeroValue20, Tryz.underlying21, Tryz.runUnderlying21, Tryz.sizeOf21, Tryz.isAgg21, Tryz.zeroValue21, (by kernel_rfl), (by kernel_rfl)⟩
def pl : PL := { L := link, fPulls := 42, fBody := 75, fGo := 74, fGo1 := 125, fGo11 := 126, tN := 33, tS := 48, tPs := 90, tPair := 47, tF := 1, tE := 20 }
theorem plib : yyy Tryz.prog pl where
 wg := wgLib
 pulls := by kernel_rfl
 go := by kernel_rfl
 go1 := by kernel_rfl
 go11 := by kernel_rfl
 isAgg_tF := fun w => by kernel_rfl
 under_tE := ⟨_, fun w => Tryz.runUnderlying20 w⟩
def shl : List Nat := [13, 16, 18, 21, 25, 29, 30, 31, 32, 33, 34, 35, 36, 37, 38, 39, 40, 41, 43, 48, 61, 62, 63, 64, 65, 66, 67, 68, 69, 70, 71, 72, 73, 75, 76, 78, 79, 80, 81, 82, 103, 104, 105, 106, 107, 108, 109, 110, 111, 112, 113, 114, 115, 116, 117, 118, 119, 120, 121, 122, 123, 128, 129, 140, 141, 142, 143, 144, 145, 146, 147, 148, 149, 167, 168, 169, 170, 171, 172, 173, 174, 175, 176, 177, 178, 179, 190, 191, 192, 193, 194, 195, 196, 197, 198, 199, 200, 201, 202, 203, 204, 205, 206, 207, 208, 209, 213, 214, 215, 216, 217, 218, 219, 220, 221, 222, 223, 224, 225, 226, 227, 228, 229, 230, 231, 232, 233, 234, 235, 236, 237, 238, 239, 240, 241, 242, 243, 244, 245, 246, 247, 248, 249, 250, 251, 252, 253, 254, 255, 256, 257, 258, 259, 260, 261, 262, 263, 264, 265, 266, 267, 268, 269, 270]
def shw : List Nat := [48, 75, 76, 104, 109, 110, 112, 113, 114, 115, 122, 128, 129, 168, 169, 170, 171, 172, 176, 177, 198, 199, 200, 201, 202, 203, 208, 209, 223, 224, 225, 227, 231, 232, 233, 234, 235, 236, 237, 238, 239, 240, 255, 256, 257, 258, 259, 260, 267]
def nm : Names := ⟨shl, shw, [118, 179]⟩
theorem yvq : yev Tryz.prog pl nm = true := by kernel_rfl
theorem shared : Shared Tryz.prog (twin Tryz.prog pl) shl.contains := seat_shared yvq
set_option maxRecDepth 100000
open Go.Sim Go.Conc
theorem tw_fn {P : Program} {A : PL} {f : Nat} {fn : Func} (h : P.funcs[f]? = some fn) (h1 : f ≠ A.fPulls) (h2 : (A.gone f || (fn.body.isNone && !yvx fn)) = false) : (twin P A).funcs[f]? = some fn := by
 rw [← yjr h1 (fun ⟨_, fn', hf, hg⟩ => by rw [h] at hf; cases hf; rw [h2] at hg; cases hg)]
 exact h
theorem q118 : (twin Tryz.prog pl).funcs[118]? = some Tryz.f118 := tw_fn Tryz.func118 (by decide) (by kernel_rfl)
theorem q179 : (twin Tryz.prog pl).funcs[179]? = some Tryz.f179 := tw_fn Tryz.func179 (by decide) (by kernel_rfl)
theorem q173 : (twin Tryz.prog pl).funcs[173]? = some Tryz.f173 := tw_fn Tryz.func173 (by decide) (by kernel_rfl)
theorem hB133 : ∃ fields f k m, (twin Tryz.prog pl).underlying 133 = some (.struct fields) ∧ fields[0]? = some f ∧ f.offset = 0 ∧ ((twin Tryz.prog pl).info? f.type).map (·.size) = some k ∧ k ≠ 0 ∧ ((twin Tryz.prog pl).info? 133).map (·.size) = some m ∧ m ≠ 0 :=
 ⟨_, _, _, _, Tryz.underlying133, rfl, rfl, rfl, Nat.succ_ne_zero _, rfl, Nat.succ_ne_zero _⟩
theorem phase118 (Stop : Frame → World → Prop) (W : World) : ytk Tryz.prog (twin Tryz.prog pl) Stop W 118 :=
 phaseCopy (tP := 131) (tB := 133) (tU := 215) (fE := 173) (yqs plib yvq) Tryz.func118 q118
  { body := rfl, tmps := by decide +kernel, els := by kernel_rfl, g0 := ⟨rfl, rfl, rfl⟩, g1 := ⟨rfl, rfl, rfl⟩, g2 := ⟨rfl, rfl, rfl⟩, g3 := ⟨rfl, rfl, rfl⟩, g4 := ⟨rfl, rfl, rfl⟩, k0 := ⟨rfl, rfl, rfl⟩, k1 := ⟨rfl, rfl, rfl⟩, k2 := ⟨rfl, rfl, rfl⟩, k3 := ⟨rfl, ⟨_, rfl⟩, rfl⟩, k4 := ⟨rfl, rfl, rfl⟩, k5 := ⟨rfl, rfl, rfl⟩, k6 := ⟨rfl, rfl, rfl⟩, k7 := ⟨rfl, rfl, rfl⟩, hP := Tryz.underlying131, hU := Tryz.underlying215, hB := hB133, hE := ⟨_, q173, by kernel_rfl, by kernel_rfl, by kernel_rfl, rfl⟩ } W
theorem phase179 (Stop : Frame → World → Prop) (W : World) : ytk Tryz.prog (twin Tryz.prog pl) Stop W 179 :=
 phaseHex (yqs plib yvq) Tryz.func179 q179 rfl (by kernel_rfl) rfl rfl rfl (by decide +kernel) rfl rfl ⟨rfl, by kernel_rfl, by kernel_rfl⟩ (by kernel_rfl) W
theorem phases (Stop : Frame → World → Prop) (W : World) (F : Nat) (h : nm.ms.contains F = true) : ytk Tryz.prog (twin Tryz.prog pl) Stop W F := by
 have : F = 118 ∨ F = 179 := by simpa [nm] using h
 rcases this with rfl | rfl
 ·exact phase118 Stop W
 ·exact phase179 Stop W
end Go.Proofs.K
