import Derived.Test.YtnhidaamfnjdjaaGreatDoorMerA
/- The texts of Merged, reckoned. -/
namespace Go.Proofs.YtnhidaamfnjdjaaGreatDoor
set_option maxRecDepth 100000 in
theorem me_2_0 : (meB 2 0 0 && meB 2 0 1 && meB 2 0 2 && meB 2 0 3) = true := by decide +kernel
set_option maxRecDepth 100000 in
theorem me_2_1 : (meB 2 1 0 && meB 2 1 1 && meB 2 1 2 && meB 2 1 3) = true := by decide +kernel
set_option maxRecDepth 100000 in
theorem me_2_2 : (meB 2 2 0 && meB 2 2 1 && meB 2 2 2 && meB 2 2 3) = true := by decide +kernel
set_option maxRecDepth 100000 in
theorem me_2_3 : (meB 2 3 0 && meB 2 3 1 && meB 2 3 2 && meB 2 3 3) = true := by decide +kernel
set_option maxRecDepth 100000 in
theorem me_2_4 : (meB 2 4 0 && meB 2 4 1 && meB 2 4 2 && meB 2 4 3) = true := by decide +kernel
set_option maxRecDepth 100000 in
theorem me_2_5 : (meB 2 5 0 && meB 2 5 1 && meB 2 5 2 && meB 2 5 3) = true := by decide +kernel
set_option maxRecDepth 100000 in
theorem me_2_6 : (meB 2 6 0 && meB 2 6 1 && meB 2 6 2 && meB 2 6 3) = true := by decide +kernel
set_option maxRecDepth 100000 in
theorem me_2_7 : (meB 2 7 0 && meB 2 7 1 && meB 2 7 2 && meB 2 7 3) = true := by decide +kernel
set_option maxRecDepth 100000 in
theorem me_2_8 : (meB 2 8 0 && meB 2 8 1 && meB 2 8 2 && meB 2 8 3) = true := by decide +kernel
set_option maxRecDepth 100000 in
theorem me_2_9 : (meB 2 9 0 && meB 2 9 1 && meB 2 9 2 && meB 2 9 3) = true := by decide +kernel
set_option maxRecDepth 100000 in
theorem me_2_10 : (meB 2 10 0 && meB 2 10 1 && meB 2 10 2 && meB 2 10 3) = true := by decide +kernel
set_option maxRecDepth 100000 in
theorem me_2_11 : (meB 2 11 0 && meB 2 11 1 && meB 2 11 2 && meB 2 11 3) = true := by decide +kernel
set_option maxRecDepth 100000 in
theorem me_3_0 : (meB 3 0 0 && meB 3 0 1 && meB 3 0 2 && meB 3 0 3) = true := by decide +kernel
set_option maxRecDepth 100000 in
theorem me_3_1 : (meB 3 1 0 && meB 3 1 1 && meB 3 1 2 && meB 3 1 3) = true := by decide +kernel
set_option maxRecDepth 100000 in
theorem me_3_2 : (meB 3 2 0 && meB 3 2 1 && meB 3 2 2 && meB 3 2 3) = true := by decide +kernel
set_option maxRecDepth 100000 in
theorem me_3_3 : (meB 3 3 0 && meB 3 3 1 && meB 3 3 2 && meB 3 3 3) = true := by decide +kernel
set_option maxRecDepth 100000 in
theorem me_3_4 : (meB 3 4 0 && meB 3 4 1 && meB 3 4 2 && meB 3 4 3) = true := by decide +kernel
set_option maxRecDepth 100000 in
theorem me_3_5 : (meB 3 5 0 && meB 3 5 1 && meB 3 5 2 && meB 3 5 3) = true := by decide +kernel
set_option maxRecDepth 100000 in
theorem me_3_6 : (meB 3 6 0 && meB 3 6 1 && meB 3 6 2 && meB 3 6 3) = true := by decide +kernel
set_option maxRecDepth 100000 in
theorem me_3_7 : (meB 3 7 0 && meB 3 7 1 && meB 3 7 2 && meB 3 7 3) = true := by decide +kernel
set_option maxRecDepth 100000 in
theorem me_3_8 : (meB 3 8 0 && meB 3 8 1 && meB 3 8 2 && meB 3 8 3) = true := by decide +kernel
set_option maxRecDepth 100000 in
theorem me_3_9 : (meB 3 9 0 && meB 3 9 1 && meB 3 9 2 && meB 3 9 3) = true := by decide +kernel
set_option maxRecDepth 100000 in
theorem me_3_10 : (meB 3 10 0 && meB 3 10 1 && meB 3 10 2 && meB 3 10 3) = true := by decide +kernel
set_option maxRecDepth 100000 in
theorem me_3_11 : (meB 3 11 0 && meB 3 11 1 && meB 3 11 2 && meB 3 11 3) = true := by decide +kernel
end Go.Proofs.YtnhidaamfnjdjaaGreatDoor
