import Derived.Test.YtnhidaamfnjdjaaGreatDoorMerA
/- The texts of Merged, reckoned. -/
namespace Go.Proofs.YtnhidaamfnjdjaaGreatDoor
set_option maxRecDepth 100000 in
theorem me_0_0 : (meB 0 0 0 && meB 0 0 1 && meB 0 0 2 && meB 0 0 3) = true := by decide +kernel
set_option maxRecDepth 100000 in
theorem me_0_1 : (meB 0 1 0 && meB 0 1 1 && meB 0 1 2 && meB 0 1 3) = true := by decide +kernel
set_option maxRecDepth 100000 in
theorem me_0_2 : (meB 0 2 0 && meB 0 2 1 && meB 0 2 2 && meB 0 2 3) = true := by decide +kernel
set_option maxRecDepth 100000 in
theorem me_0_3 : (meB 0 3 0 && meB 0 3 1 && meB 0 3 2 && meB 0 3 3) = true := by decide +kernel
set_option maxRecDepth 100000 in
theorem me_0_4 : (meB 0 4 0 && meB 0 4 1 && meB 0 4 2 && meB 0 4 3) = true := by decide +kernel
set_option maxRecDepth 100000 in
theorem me_0_5 : (meB 0 5 0 && meB 0 5 1 && meB 0 5 2 && meB 0 5 3) = true := by decide +kernel
set_option maxRecDepth 100000 in
theorem me_0_6 : (meB 0 6 0 && meB 0 6 1 && meB 0 6 2 && meB 0 6 3) = true := by decide +kernel
set_option maxRecDepth 100000 in
theorem me_0_7 : (meB 0 7 0 && meB 0 7 1 && meB 0 7 2 && meB 0 7 3) = true := by decide +kernel
set_option maxRecDepth 100000 in
theorem me_0_8 : (meB 0 8 0 && meB 0 8 1 && meB 0 8 2 && meB 0 8 3) = true := by decide +kernel
set_option maxRecDepth 100000 in
theorem me_0_9 : (meB 0 9 0 && meB 0 9 1 && meB 0 9 2 && meB 0 9 3) = true := by decide +kernel
set_option maxRecDepth 100000 in
theorem me_0_10 : (meB 0 10 0 && meB 0 10 1 && meB 0 10 2 && meB 0 10 3) = true := by decide +kernel
set_option maxRecDepth 100000 in
theorem me_0_11 : (meB 0 11 0 && meB 0 11 1 && meB 0 11 2 && meB 0 11 3) = true := by decide +kernel
set_option maxRecDepth 100000 in
theorem me_1_0 : (meB 1 0 0 && meB 1 0 1 && meB 1 0 2 && meB 1 0 3) = true := by decide +kernel
set_option maxRecDepth 100000 in
theorem me_1_1 : (meB 1 1 0 && meB 1 1 1 && meB 1 1 2 && meB 1 1 3) = true := by decide +kernel
set_option maxRecDepth 100000 in
theorem me_1_2 : (meB 1 2 0 && meB 1 2 1 && meB 1 2 2 && meB 1 2 3) = true := by decide +kernel
set_option maxRecDepth 100000 in
theorem me_1_3 : (meB 1 3 0 && meB 1 3 1 && meB 1 3 2 && meB 1 3 3) = true := by decide +kernel
set_option maxRecDepth 100000 in
theorem me_1_4 : (meB 1 4 0 && meB 1 4 1 && meB 1 4 2 && meB 1 4 3) = true := by decide +kernel
set_option maxRecDepth 100000 in
theorem me_1_5 : (meB 1 5 0 && meB 1 5 1 && meB 1 5 2 && meB 1 5 3) = true := by decide +kernel
set_option maxRecDepth 100000 in
theorem me_1_6 : (meB 1 6 0 && meB 1 6 1 && meB 1 6 2 && meB 1 6 3) = true := by decide +kernel
set_option maxRecDepth 100000 in
theorem me_1_7 : (meB 1 7 0 && meB 1 7 1 && meB 1 7 2 && meB 1 7 3) = true := by decide +kernel
set_option maxRecDepth 100000 in
theorem me_1_8 : (meB 1 8 0 && meB 1 8 1 && meB 1 8 2 && meB 1 8 3) = true := by decide +kernel
set_option maxRecDepth 100000 in
theorem me_1_9 : (meB 1 9 0 && meB 1 9 1 && meB 1 9 2 && meB 1 9 3) = true := by decide +kernel
set_option maxRecDepth 100000 in
theorem me_1_10 : (meB 1 10 0 && meB 1 10 1 && meB 1 10 2 && meB 1 10 3) = true := by decide +kernel
set_option maxRecDepth 100000 in
theorem me_1_11 : (meB 1 11 0 && meB 1 11 1 && meB 1 11 2 && meB 1 11 3) = true := by decide +kernel
end Go.Proofs.YtnhidaamfnjdjaaGreatDoor
