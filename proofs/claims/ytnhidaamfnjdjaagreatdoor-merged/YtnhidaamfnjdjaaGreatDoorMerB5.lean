import Derived.Test.YtnhidaamfnjdjaaGreatDoorMerA
/- The texts of Merged, reckoned. -/
namespace Go.Proofs.YtnhidaamfnjdjaaGreatDoor
set_option maxRecDepth 100000 in
theorem me_10_0 : (meB 10 0 0 && meB 10 0 1 && meB 10 0 2 && meB 10 0 3) = true := by decide +kernel
set_option maxRecDepth 100000 in
theorem me_10_1 : (meB 10 1 0 && meB 10 1 1 && meB 10 1 2 && meB 10 1 3) = true := by decide +kernel
set_option maxRecDepth 100000 in
theorem me_10_2 : (meB 10 2 0 && meB 10 2 1 && meB 10 2 2 && meB 10 2 3) = true := by decide +kernel
set_option maxRecDepth 100000 in
theorem me_10_3 : (meB 10 3 0 && meB 10 3 1 && meB 10 3 2 && meB 10 3 3) = true := by decide +kernel
set_option maxRecDepth 100000 in
theorem me_10_4 : (meB 10 4 0 && meB 10 4 1 && meB 10 4 2 && meB 10 4 3) = true := by decide +kernel
set_option maxRecDepth 100000 in
theorem me_10_5 : (meB 10 5 0 && meB 10 5 1 && meB 10 5 2 && meB 10 5 3) = true := by decide +kernel
set_option maxRecDepth 100000 in
theorem me_10_6 : (meB 10 6 0 && meB 10 6 1 && meB 10 6 2 && meB 10 6 3) = true := by decide +kernel
set_option maxRecDepth 100000 in
theorem me_10_7 : (meB 10 7 0 && meB 10 7 1 && meB 10 7 2 && meB 10 7 3) = true := by decide +kernel
set_option maxRecDepth 100000 in
theorem me_10_8 : (meB 10 8 0 && meB 10 8 1 && meB 10 8 2 && meB 10 8 3) = true := by decide +kernel
set_option maxRecDepth 100000 in
theorem me_10_9 : (meB 10 9 0 && meB 10 9 1 && meB 10 9 2 && meB 10 9 3) = true := by decide +kernel
set_option maxRecDepth 100000 in
theorem me_10_10 : (meB 10 10 0 && meB 10 10 1 && meB 10 10 2 && meB 10 10 3) = true := by decide +kernel
set_option maxRecDepth 100000 in
theorem me_10_11 : (meB 10 11 0 && meB 10 11 1 && meB 10 11 2 && meB 10 11 3) = true := by decide +kernel
set_option maxRecDepth 100000 in
theorem me_11_0 : (meB 11 0 0 && meB 11 0 1 && meB 11 0 2 && meB 11 0 3) = true := by decide +kernel
set_option maxRecDepth 100000 in
theorem me_11_1 : (meB 11 1 0 && meB 11 1 1 && meB 11 1 2 && meB 11 1 3) = true := by decide +kernel
set_option maxRecDepth 100000 in
theorem me_11_2 : (meB 11 2 0 && meB 11 2 1 && meB 11 2 2 && meB 11 2 3) = true := by decide +kernel
set_option maxRecDepth 100000 in
theorem me_11_3 : (meB 11 3 0 && meB 11 3 1 && meB 11 3 2 && meB 11 3 3) = true := by decide +kernel
set_option maxRecDepth 100000 in
theorem me_11_4 : (meB 11 4 0 && meB 11 4 1 && meB 11 4 2 && meB 11 4 3) = true := by decide +kernel
set_option maxRecDepth 100000 in
theorem me_11_5 : (meB 11 5 0 && meB 11 5 1 && meB 11 5 2 && meB 11 5 3) = true := by decide +kernel
set_option maxRecDepth 100000 in
theorem me_11_6 : (meB 11 6 0 && meB 11 6 1 && meB 11 6 2 && meB 11 6 3) = true := by decide +kernel
set_option maxRecDepth 100000 in
theorem me_11_7 : (meB 11 7 0 && meB 11 7 1 && meB 11 7 2 && meB 11 7 3) = true := by decide +kernel
set_option maxRecDepth 100000 in
theorem me_11_8 : (meB 11 8 0 && meB 11 8 1 && meB 11 8 2 && meB 11 8 3) = true := by decide +kernel
set_option maxRecDepth 100000 in
theorem me_11_9 : (meB 11 9 0 && meB 11 9 1 && meB 11 9 2 && meB 11 9 3) = true := by decide +kernel
set_option maxRecDepth 100000 in
theorem me_11_10 : (meB 11 10 0 && meB 11 10 1 && meB 11 10 2 && meB 11 10 3) = true := by decide +kernel
set_option maxRecDepth 100000 in
theorem me_11_11 : (meB 11 11 0 && meB 11 11 1 && meB 11 11 2 && meB 11 11 3) = true := by decide +kernel
end Go.Proofs.YtnhidaamfnjdjaaGreatDoor
