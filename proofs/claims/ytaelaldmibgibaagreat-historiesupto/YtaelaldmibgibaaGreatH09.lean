/- The seat: the numbers of its functions and types. -/
import Derived.Test.YtaelaldmibgibaaGreatH08
import Derived.Test.YtaelaldmibgibaaGreatProg

set_option linter.unusedVariables false
set_option linter.unusedSimpArgs false
set_option linter.unusedSectionVars false

namespace Go.Proofs.YtaelaldmibgibaaGreat
open Go.Sim Go.Conc.Lib
def link : WgLink := { add := 83, done := 86, wait := 77, relMerge := 113, disable := 88, enable := 90, inBubble := 96, associate := 114, fatal := 115, uOr := 116, uAdd := 117, raceRead := 118, uLoad := 89, uStore := 119, disassociate := 94, semrelease := 120, acquire := 91, isAssociated := 92, uCas := 93, raceWrite := 95, semacquire := 97, orU64 := 133, addU64 := 134, loadU64 := 122, storeU64 := 135, casU64 := 123, tWgP := 172, tUP := 177, tAssoc := 194, tWg := 160, tAU := 157, tU64 := 155, tUint := 171, tU32 := 158, tPU32 := 181, tPAU := 201, tPU64 := 203, tNoCopy := 152, tANoCopy := 153, tAlign64 := 154 }
theorem wgLib : WgLib Tryz.prog link :=
 ⟨Tryz.func83, Tryz.func86, Tryz.func77, Tryz.func113, Tryz.func88, Tryz.func90, Tryz.func96, Tryz.func114, Tryz.func115, Tryz.func116, Tryz.func117, Tryz.func118, Tryz.func89, Tryz.func119, Tryz.func94, Tryz.func120, Tryz.func91, Tryz.func92, Tryz.func93, Tryz.func95, Tryz.func97, Tryz.func133, Tryz.func134, Tryz.func122, Tryz.func135, Tryz.func123, Tryz.underlying172, Tryz.runUnderlying172, Tryz.sizeOf172, Tryz.isAgg172, Tryz.zeroValue172, Tryz.underlying177, Tryz.runUnderlying177, Tryz.sizeOf177, Tryz.isAgg177, Tryz.zeroValue177, Tryz.underlying194, Tryz.runUnderlying194, Tryz.sizeOf194, Tryz.isAgg194, Tryz.zeroValue194, Tryz.underlying160, Tryz.runUnderlying160, Tryz.sizeOf160, Tryz.isAgg160, Tryz.zeroValue160, Tryz.underlying157, Tryz.runUnderlying157, Tryz.sizeOf157, Tryz.isAgg157, Tryz.zeroValue157, Tryz.underlying155, Tryz.runUnderlying155, Tryz.sizeOf155, Tryz.isAgg155, Tryz.zeroValue155, Tryz.underlying171, Tryz.runUnderlying171, Tryz.sizeOf171, Tryz.isAgg171, Tryz.zeroValue171, Tryz.underlying158, Tryz.runUnderlying158, Tryz.sizeOf158, Tryz.isAgg158, Tryz.zeroValue158, Tryz.underlying181, Tryz.runUnderlying181, Tryz.sizeOf181, Tryz.isAgg181, Tryz.zeroValue181, Tryz.underlying201, Tryz.runUnderlying201, Tryz.sizeOf201, Tryz.isAgg201, Tryz.zeroValue201, Tryz.underlying203, Tryz.runUnderlying203, Tryz.sizeOf203, Tryz.isAgg203, Tryz.zeroValue203, Tryz.underlying0, Tryz.runUnderlying0, Tryz.sizeOf0, Tryz.isAgg0, Tryz.zeroValue0, Tryz.underlying3, Tryz.runUnderlying3, Tryz.sizeOf3, Tryz.isAgg3, Tryz.zeroValue3, Tryz.underlying4, Tryz.runUnderlying4, Tryz.sizeOf4, Tryz.isAgg4, Tryz.zeroValue4, Tryz.underlying9, Tryz.runUnderlying9, Tryz.sizeOf9, Tryz.isAgg9, Tryz.zeroValue9, Tryz.underlying20, Tryz.runUnderlying20, Tryz.sizeOf20, Tryz.isAgg20, Tryz.zeroValue20, Tryz.underlying21, Tryz.runUnderlying21, Tryz.sizeOf21, Tryz.isAgg21, Tryz.zeroValue21, (by kernel_rfl), (by kernel_rfl)⟩
def pl : PL := { L := link, fPulls := 64, fBody := 75, fGo := 74, fGo1 := 84, fGo11 := 85, tN := 23, tS := 32, tPs := 134, tPair := 100, tF := 1, tE := 20 }
theorem plib : yrg Tryz.prog pl where
 wg := wgLib
 pulls := by kernel_rfl
 go := by kernel_rfl
 go1 := by kernel_rfl
 go11 := by kernel_rfl
 isAgg_tF := fun w => by kernel_rfl
 under_tE := ⟨_, fun w => Tryz.runUnderlying20 w⟩
def shl : List Nat := [8, 9, 10, 11, 13, 14, 18, 19, 20, 21, 23, 24, 25, 26, 27, 28, 29, 30, 31, 32, 33, 34, 35, 36, 37, 38, 39, 40, 42, 43, 44, 45, 46, 47, 48, 49, 50, 51, 52, 53, 54, 55, 56, 57, 58, 59, 60, 61, 62, 63, 65, 66, 67, 68, 69, 70, 71, 72, 73, 75, 76, 78, 79, 80, 81, 82, 87, 98, 99, 100, 101, 102, 103, 104, 105, 106, 107, 108, 109, 110, 111, 112, 121, 124, 125, 126, 127, 128, 129, 130, 131, 132, 136, 137]
theorem seat_ok : ygr Tryz.prog pl shl = true := by kernel_rfl
theorem shared : Shared Tryz.prog (twin Tryz.prog pl) shl.contains := yhs seat_ok
end Go.Proofs.YtaelaldmibgibaaGreat
