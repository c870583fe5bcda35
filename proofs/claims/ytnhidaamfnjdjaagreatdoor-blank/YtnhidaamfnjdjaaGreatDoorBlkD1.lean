import Derived.Test.YtnhidaamfnjdjaaGreatDoorBlkC
namespace Go.Proofs.YtnhidaamfnjdjaaGreatDoor
theorem allS_10 : allS 3 [1, 0] = true := by decide +kernel
theorem allS_11 : allS 3 [1, 1] = true := by decide +kernel
theorem allS_12 : allS 3 [1, 2] = true := by decide +kernel
theorem allS_13 : allS 3 [1, 3] = true := by decide +kernel
theorem okS_1 : okShape [1] = true := by decide +kernel
end Go.Proofs.YtnhidaamfnjdjaaGreatDoor
