import Derived.Test.YtnhidaamfnjdjaaGreatDoorBlkC
namespace Go.Proofs.YtnhidaamfnjdjaaGreatDoor
theorem allS_00 : allS 3 [0, 0] = true := by decide +kernel
theorem allS_01 : allS 3 [0, 1] = true := by decide +kernel
theorem allS_02 : allS 3 [0, 2] = true := by decide +kernel
theorem allS_03 : allS 3 [0, 3] = true := by decide +kernel
theorem okS_0 : okShape [0] = true := by decide +kernel
end Go.Proofs.YtnhidaamfnjdjaaGreatDoor
