import Derived.Test.YtnhidaamfnjdjaaGreatDoorMerA
/- The texts of Merged, reckoned. -/
namespace Go.Proofs.YtnhidaamfnjdjaaGreatDoor
set_option maxRecDepth 100000 in
theorem me_8_0 : (meB 8 0 0 && meB 8 0 1 && meB 8 0 2 && meB 8 0 3) = true := by decide +kernel
set_option maxRecDepth 100000 in
theorem me_8_1 : (meB 8 1 0 && meB 8 1 1 && meB 8 1 2 && meB 8 1 3) = true := by decide +kernel
set_option maxRecDepth 100000 in
theorem me_8_2 : (meB 8 2 0 && meB 8 2 1 && meB 8 2 2 && meB 8 2 3) = true := by decide +kernel
set_option maxRecDepth 100000 in
theorem me_8_3 : (meB 8 3 0 && meB 8 3 1 && meB 8 3 2 && meB 8 3 3) = true := by decide +kernel
set_option maxRecDepth 100000 in
theorem me_8_4 : (meB 8 4 0 && meB 8 4 1 && meB 8 4 2 && meB 8 4 3) = true := by decide +kernel
set_option maxRecDepth 100000 in
theorem me_8_5 : (meB 8 5 0 && meB 8 5 1 && meB 8 5 2 && meB 8 5 3) = true := by decide +kernel
set_option maxRecDepth 100000 in
theorem me_8_6 : (meB 8 6 0 && meB 8 6 1 && meB 8 6 2 && meB 8 6 3) = true := by decide +kernel
set_option maxRecDepth 100000 in
theorem me_8_7 : (meB 8 7 0 && meB 8 7 1 && meB 8 7 2 && meB 8 7 3) = true := by decide +kernel
set_option maxRecDepth 100000 in
theorem me_8_8 : (meB 8 8 0 && meB 8 8 1 && meB 8 8 2 && meB 8 8 3) = true := by decide +kernel
set_option maxRecDepth 100000 in
theorem me_8_9 : (meB 8 9 0 && meB 8 9 1 && meB 8 9 2 && meB 8 9 3) = true := by decide +kernel
set_option maxRecDepth 100000 in
theorem me_8_10 : (meB 8 10 0 && meB 8 10 1 && meB 8 10 2 && meB 8 10 3) = true := by decide +kernel
set_option maxRecDepth 100000 in
theorem me_8_11 : (meB 8 11 0 && meB 8 11 1 && meB 8 11 2 && meB 8 11 3) = true := by decide +kernel
set_option maxRecDepth 100000 in
theorem me_9_0 : (meB 9 0 0 && meB 9 0 1 && meB 9 0 2 && meB 9 0 3) = true := by decide +kernel
set_option maxRecDepth 100000 in
theorem me_9_1 : (meB 9 1 0 && meB 9 1 1 && meB 9 1 2 && meB 9 1 3) = true := by decide +kernel
set_option maxRecDepth 100000 in
theorem me_9_2 : (meB 9 2 0 && meB 9 2 1 && meB 9 2 2 && meB 9 2 3) = true := by decide +kernel
set_option maxRecDepth 100000 in
theorem me_9_3 : (meB 9 3 0 && meB 9 3 1 && meB 9 3 2 && meB 9 3 3) = true := by decide +kernel
set_option maxRecDepth 100000 in
theorem me_9_4 : (meB 9 4 0 && meB 9 4 1 && meB 9 4 2 && meB 9 4 3) = true := by decide +kernel
set_option maxRecDepth 100000 in
theorem me_9_5 : (meB 9 5 0 && meB 9 5 1 && meB 9 5 2 && meB 9 5 3) = true := by decide +kernel
set_option maxRecDepth 100000 in
theorem me_9_6 : (meB 9 6 0 && meB 9 6 1 && meB 9 6 2 && meB 9 6 3) = true := by decide +kernel
set_option maxRecDepth 100000 in
theorem me_9_7 : (meB 9 7 0 && meB 9 7 1 && meB 9 7 2 && meB 9 7 3) = true := by decide +kernel
set_option maxRecDepth 100000 in
theorem me_9_8 : (meB 9 8 0 && meB 9 8 1 && meB 9 8 2 && meB 9 8 3) = true := by decide +kernel
set_option maxRecDepth 100000 in
theorem me_9_9 : (meB 9 9 0 && meB 9 9 1 && meB 9 9 2 && meB 9 9 3) = true := by decide +kernel
set_option maxRecDepth 100000 in
theorem me_9_10 : (meB 9 10 0 && meB 9 10 1 && meB 9 10 2 && meB 9 10 3) = true := by decide +kernel
set_option maxRecDepth 100000 in
theorem me_9_11 : (meB 9 11 0 && meB 9 11 1 && meB 9 11 2 && meB 9 11 3) = true := by decide +kernel
end Go.Proofs.YtnhidaamfnjdjaaGreatDoor
