import Derived.Test.YtnhidaamfnjdjaaGreatDoorMerA
/- The texts of Merged, reckoned. -/
namespace Go.Proofs.YtnhidaamfnjdjaaGreatDoor
set_option maxRecDepth 100000 in
theorem me_4_0 : (meB 4 0 0 && meB 4 0 1 && meB 4 0 2 && meB 4 0 3) = true := by decide +kernel
set_option maxRecDepth 100000 in
theorem me_4_1 : (meB 4 1 0 && meB 4 1 1 && meB 4 1 2 && meB 4 1 3) = true := by decide +kernel
set_option maxRecDepth 100000 in
theorem me_4_2 : (meB 4 2 0 && meB 4 2 1 && meB 4 2 2 && meB 4 2 3) = true := by decide +kernel
set_option maxRecDepth 100000 in
theorem me_4_3 : (meB 4 3 0 && meB 4 3 1 && meB 4 3 2 && meB 4 3 3) = true := by decide +kernel
set_option maxRecDepth 100000 in
theorem me_4_4 : (meB 4 4 0 && meB 4 4 1 && meB 4 4 2 && meB 4 4 3) = true := by decide +kernel
set_option maxRecDepth 100000 in
theorem me_4_5 : (meB 4 5 0 && meB 4 5 1 && meB 4 5 2 && meB 4 5 3) = true := by decide +kernel
set_option maxRecDepth 100000 in
theorem me_4_6 : (meB 4 6 0 && meB 4 6 1 && meB 4 6 2 && meB 4 6 3) = true := by decide +kernel
set_option maxRecDepth 100000 in
theorem me_4_7 : (meB 4 7 0 && meB 4 7 1 && meB 4 7 2 && meB 4 7 3) = true := by decide +kernel
set_option maxRecDepth 100000 in
theorem me_4_8 : (meB 4 8 0 && meB 4 8 1 && meB 4 8 2 && meB 4 8 3) = true := by decide +kernel
set_option maxRecDepth 100000 in
theorem me_4_9 : (meB 4 9 0 && meB 4 9 1 && meB 4 9 2 && meB 4 9 3) = true := by decide +kernel
set_option maxRecDepth 100000 in
theorem me_4_10 : (meB 4 10 0 && meB 4 10 1 && meB 4 10 2 && meB 4 10 3) = true := by decide +kernel
set_option maxRecDepth 100000 in
theorem me_4_11 : (meB 4 11 0 && meB 4 11 1 && meB 4 11 2 && meB 4 11 3) = true := by decide +kernel
set_option maxRecDepth 100000 in
theorem me_5_0 : (meB 5 0 0 && meB 5 0 1 && meB 5 0 2 && meB 5 0 3) = true := by decide +kernel
set_option maxRecDepth 100000 in
theorem me_5_1 : (meB 5 1 0 && meB 5 1 1 && meB 5 1 2 && meB 5 1 3) = true := by decide +kernel
set_option maxRecDepth 100000 in
theorem me_5_2 : (meB 5 2 0 && meB 5 2 1 && meB 5 2 2 && meB 5 2 3) = true := by decide +kernel
set_option maxRecDepth 100000 in
theorem me_5_3 : (meB 5 3 0 && meB 5 3 1 && meB 5 3 2 && meB 5 3 3) = true := by decide +kernel
set_option maxRecDepth 100000 in
theorem me_5_4 : (meB 5 4 0 && meB 5 4 1 && meB 5 4 2 && meB 5 4 3) = true := by decide +kernel
set_option maxRecDepth 100000 in
theorem me_5_5 : (meB 5 5 0 && meB 5 5 1 && meB 5 5 2 && meB 5 5 3) = true := by decide +kernel
set_option maxRecDepth 100000 in
theorem me_5_6 : (meB 5 6 0 && meB 5 6 1 && meB 5 6 2 && meB 5 6 3) = true := by decide +kernel
set_option maxRecDepth 100000 in
theorem me_5_7 : (meB 5 7 0 && meB 5 7 1 && meB 5 7 2 && meB 5 7 3) = true := by decide +kernel
set_option maxRecDepth 100000 in
theorem me_5_8 : (meB 5 8 0 && meB 5 8 1 && meB 5 8 2 && meB 5 8 3) = true := by decide +kernel
set_option maxRecDepth 100000 in
theorem me_5_9 : (meB 5 9 0 && meB 5 9 1 && meB 5 9 2 && meB 5 9 3) = true := by decide +kernel
set_option maxRecDepth 100000 in
theorem me_5_10 : (meB 5 10 0 && meB 5 10 1 && meB 5 10 2 && meB 5 10 3) = true := by decide +kernel
set_option maxRecDepth 100000 in
theorem me_5_11 : (meB 5 11 0 && meB 5 11 1 && meB 5 11 2 && meB 5 11 3) = true := by decide +kernel
end Go.Proofs.YtnhidaamfnjdjaaGreatDoor
