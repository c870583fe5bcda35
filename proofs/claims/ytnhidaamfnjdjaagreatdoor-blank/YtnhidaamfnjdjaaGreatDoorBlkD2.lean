import Derived.Test.YtnhidaamfnjdjaaGreatDoorBlkC
namespace Go.Proofs.YtnhidaamfnjdjaaGreatDoor
theorem allS_20 : allS 3 [2, 0] = true := by decide +kernel
theorem allS_21 : allS 3 [2, 1] = true := by decide +kernel
theorem allS_22 : allS 3 [2, 2] = true := by decide +kernel
theorem allS_23 : allS 3 [2, 3] = true := by decide +kernel
theorem okS_2 : okShape [2] = true := by decide +kernel
end Go.Proofs.YtnhidaamfnjdjaaGreatDoor
