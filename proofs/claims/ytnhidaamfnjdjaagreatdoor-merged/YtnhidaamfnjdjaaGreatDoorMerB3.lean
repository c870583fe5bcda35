import Derived.Test.YtnhidaamfnjdjaaGreatDoorMerA
/- The texts of Merged, reckoned. -/
namespace Go.Proofs.YtnhidaamfnjdjaaGreatDoor
set_option maxRecDepth 100000 in
theorem me_6_0 : (meB 6 0 0 && meB 6 0 1 && meB 6 0 2 && meB 6 0 3) = true := by decide +kernel
set_option maxRecDepth 100000 in
theorem me_6_1 : (meB 6 1 0 && meB 6 1 1 && meB 6 1 2 && meB 6 1 3) = true := by decide +kernel
set_option maxRecDepth 100000 in
theorem me_6_2 : (meB 6 2 0 && meB 6 2 1 && meB 6 2 2 && meB 6 2 3) = true := by decide +kernel
set_option maxRecDepth 100000 in
theorem me_6_3 : (meB 6 3 0 && meB 6 3 1 && meB 6 3 2 && meB 6 3 3) = true := by decide +kernel
set_option maxRecDepth 100000 in
theorem me_6_4 : (meB 6 4 0 && meB 6 4 1 && meB 6 4 2 && meB 6 4 3) = true := by decide +kernel
set_option maxRecDepth 100000 in
theorem me_6_5 : (meB 6 5 0 && meB 6 5 1 && meB 6 5 2 && meB 6 5 3) = true := by decide +kernel
set_option maxRecDepth 100000 in
theorem me_6_6 : (meB 6 6 0 && meB 6 6 1 && meB 6 6 2 && meB 6 6 3) = true := by decide +kernel
set_option maxRecDepth 100000 in
theorem me_6_7 : (meB 6 7 0 && meB 6 7 1 && meB 6 7 2 && meB 6 7 3) = true := by decide +kernel
set_option maxRecDepth 100000 in
theorem me_6_8 : (meB 6 8 0 && meB 6 8 1 && meB 6 8 2 && meB 6 8 3) = true := by decide +kernel
set_option maxRecDepth 100000 in
theorem me_6_9 : (meB 6 9 0 && meB 6 9 1 && meB 6 9 2 && meB 6 9 3) = true := by decide +kernel
set_option maxRecDepth 100000 in
theorem me_6_10 : (meB 6 10 0 && meB 6 10 1 && meB 6 10 2 && meB 6 10 3) = true := by decide +kernel
set_option maxRecDepth 100000 in
theorem me_6_11 : (meB 6 11 0 && meB 6 11 1 && meB 6 11 2 && meB 6 11 3) = true := by decide +kernel
set_option maxRecDepth 100000 in
theorem me_7_0 : (meB 7 0 0 && meB 7 0 1 && meB 7 0 2 && meB 7 0 3) = true := by decide +kernel
set_option maxRecDepth 100000 in
theorem me_7_1 : (meB 7 1 0 && meB 7 1 1 && meB 7 1 2 && meB 7 1 3) = true := by decide +kernel
set_option maxRecDepth 100000 in
theorem me_7_2 : (meB 7 2 0 && meB 7 2 1 && meB 7 2 2 && meB 7 2 3) = true := by decide +kernel
set_option maxRecDepth 100000 in
theorem me_7_3 : (meB 7 3 0 && meB 7 3 1 && meB 7 3 2 && meB 7 3 3) = true := by decide +kernel
set_option maxRecDepth 100000 in
theorem me_7_4 : (meB 7 4 0 && meB 7 4 1 && meB 7 4 2 && meB 7 4 3) = true := by decide +kernel
set_option maxRecDepth 100000 in
theorem me_7_5 : (meB 7 5 0 && meB 7 5 1 && meB 7 5 2 && meB 7 5 3) = true := by decide +kernel
set_option maxRecDepth 100000 in
theorem me_7_6 : (meB 7 6 0 && meB 7 6 1 && meB 7 6 2 && meB 7 6 3) = true := by decide +kernel
set_option maxRecDepth 100000 in
theorem me_7_7 : (meB 7 7 0 && meB 7 7 1 && meB 7 7 2 && meB 7 7 3) = true := by decide +kernel
set_option maxRecDepth 100000 in
theorem me_7_8 : (meB 7 8 0 && meB 7 8 1 && meB 7 8 2 && meB 7 8 3) = true := by decide +kernel
set_option maxRecDepth 100000 in
theorem me_7_9 : (meB 7 9 0 && meB 7 9 1 && meB 7 9 2 && meB 7 9 3) = true := by decide +kernel
set_option maxRecDepth 100000 in
theorem me_7_10 : (meB 7 10 0 && meB 7 10 1 && meB 7 10 2 && meB 7 10 3) = true := by decide +kernel
set_option maxRecDepth 100000 in
theorem me_7_11 : (meB 7 11 0 && meB 7 11 1 && meB 7 11 2 && meB 7 11 3) = true := by decide +kernel
end Go.Proofs.YtnhidaamfnjdjaaGreatDoor
