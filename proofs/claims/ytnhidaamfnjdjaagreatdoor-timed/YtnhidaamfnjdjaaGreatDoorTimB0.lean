import Derived.Test.YtnhidaamfnjdjaaGreatDoorItmA
/- The runs of Timed, reckoned. Written by wip/gentima.py. -/
namespace Go.Proofs.YtnhidaamfnjdjaaGreatDoor
set_option maxRecDepth 100000 in
theorem ti_0_0_0 : (tiB 0 0 0 && tiB 0 0 1 && tiB 0 0 2) = true := by decide +kernel
set_option maxRecDepth 100000 in
theorem ti_0_0_1 : (tiB 0 0 3 && tiB 0 0 4 && tiB 0 0 5) = true := by decide +kernel
set_option maxRecDepth 100000 in
theorem ti_0_0_2 : (tiB 0 0 6 && tiB 0 0 7 && tiB 0 0 8) = true := by decide +kernel
set_option maxRecDepth 100000 in
theorem ti_0_1_0 : (tiB 0 1 0 && tiB 0 1 1 && tiB 0 1 2) = true := by decide +kernel
set_option maxRecDepth 100000 in
theorem ti_0_1_1 : (tiB 0 1 3 && tiB 0 1 4 && tiB 0 1 5) = true := by decide +kernel
set_option maxRecDepth 100000 in
theorem ti_0_1_2 : (tiB 0 1 6 && tiB 0 1 7 && tiB 0 1 8) = true := by decide +kernel
set_option maxRecDepth 100000 in
theorem ti_0_2_0 : (tiB 0 2 0 && tiB 0 2 1 && tiB 0 2 2) = true := by decide +kernel
set_option maxRecDepth 100000 in
theorem ti_0_2_1 : (tiB 0 2 3 && tiB 0 2 4 && tiB 0 2 5) = true := by decide +kernel
set_option maxRecDepth 100000 in
theorem ti_0_2_2 : (tiB 0 2 6 && tiB 0 2 7 && tiB 0 2 8) = true := by decide +kernel
set_option maxRecDepth 100000 in
theorem ti_0_3_0 : (tiB 0 3 0 && tiB 0 3 1 && tiB 0 3 2) = true := by decide +kernel
set_option maxRecDepth 100000 in
theorem ti_0_3_1 : (tiB 0 3 3 && tiB 0 3 4 && tiB 0 3 5) = true := by decide +kernel
set_option maxRecDepth 100000 in
theorem ti_0_3_2 : (tiB 0 3 6 && tiB 0 3 7 && tiB 0 3 8) = true := by decide +kernel
set_option maxRecDepth 100000 in
theorem ti_0_4_0 : (tiB 0 4 0 && tiB 0 4 1 && tiB 0 4 2) = true := by decide +kernel
set_option maxRecDepth 100000 in
theorem ti_0_4_1 : (tiB 0 4 3 && tiB 0 4 4 && tiB 0 4 5) = true := by decide +kernel
set_option maxRecDepth 100000 in
theorem ti_0_4_2 : (tiB 0 4 6 && tiB 0 4 7 && tiB 0 4 8) = true := by decide +kernel
set_option maxRecDepth 100000 in
theorem ti_0_5_0 : (tiB 0 5 0 && tiB 0 5 1 && tiB 0 5 2) = true := by decide +kernel
set_option maxRecDepth 100000 in
theorem ti_0_5_1 : (tiB 0 5 3 && tiB 0 5 4 && tiB 0 5 5) = true := by decide +kernel
set_option maxRecDepth 100000 in
theorem ti_0_5_2 : (tiB 0 5 6 && tiB 0 5 7 && tiB 0 5 8) = true := by decide +kernel
set_option maxRecDepth 100000 in
theorem ti_0_6_0 : (tiB 0 6 0 && tiB 0 6 1 && tiB 0 6 2) = true := by decide +kernel
set_option maxRecDepth 100000 in
theorem ti_0_6_1 : (tiB 0 6 3 && tiB 0 6 4 && tiB 0 6 5) = true := by decide +kernel
set_option maxRecDepth 100000 in
theorem ti_0_6_2 : (tiB 0 6 6 && tiB 0 6 7 && tiB 0 6 8) = true := by decide +kernel
set_option maxRecDepth 100000 in
theorem ti_0_7_0 : (tiB 0 7 0 && tiB 0 7 1 && tiB 0 7 2) = true := by decide +kernel
set_option maxRecDepth 100000 in
theorem ti_0_7_1 : (tiB 0 7 3 && tiB 0 7 4 && tiB 0 7 5) = true := by decide +kernel
set_option maxRecDepth 100000 in
theorem ti_0_7_2 : (tiB 0 7 6 && tiB 0 7 7 && tiB 0 7 8) = true := by decide +kernel
set_option maxRecDepth 100000 in
theorem ti_0_8_0 : (tiB 0 8 0 && tiB 0 8 1 && tiB 0 8 2) = true := by decide +kernel
set_option maxRecDepth 100000 in
theorem ti_0_8_1 : (tiB 0 8 3 && tiB 0 8 4 && tiB 0 8 5) = true := by decide +kernel
set_option maxRecDepth 100000 in
theorem ti_0_8_2 : (tiB 0 8 6 && tiB 0 8 7 && tiB 0 8 8) = true := by decide +kernel
end Go.Proofs.YtnhidaamfnjdjaaGreatDoor
/- The runs of Timed, reckoned. Written by wip/gentima.py. -/
namespace Go.Proofs.YtnhidaamfnjdjaaGreatDoor
set_option maxRecDepth 100000 in
theorem ti_1_0_0 : (tiB 1 0 0 && tiB 1 0 1 && tiB 1 0 2) = true := by decide +kernel
set_option maxRecDepth 100000 in
theorem ti_1_0_1 : (tiB 1 0 3 && tiB 1 0 4 && tiB 1 0 5) = true := by decide +kernel
set_option maxRecDepth 100000 in
theorem ti_1_0_2 : (tiB 1 0 6 && tiB 1 0 7 && tiB 1 0 8) = true := by decide +kernel
set_option maxRecDepth 100000 in
theorem ti_1_1_0 : (tiB 1 1 0 && tiB 1 1 1 && tiB 1 1 2) = true := by decide +kernel
set_option maxRecDepth 100000 in
theorem ti_1_1_1 : (tiB 1 1 3 && tiB 1 1 4 && tiB 1 1 5) = true := by decide +kernel
set_option maxRecDepth 100000 in
theorem ti_1_1_2 : (tiB 1 1 6 && tiB 1 1 7 && tiB 1 1 8) = true := by decide +kernel
set_option maxRecDepth 100000 in
theorem ti_1_2_0 : (tiB 1 2 0 && tiB 1 2 1 && tiB 1 2 2) = true := by decide +kernel
set_option maxRecDepth 100000 in
theorem ti_1_2_1 : (tiB 1 2 3 && tiB 1 2 4 && tiB 1 2 5) = true := by decide +kernel
set_option maxRecDepth 100000 in
theorem ti_1_2_2 : (tiB 1 2 6 && tiB 1 2 7 && tiB 1 2 8) = true := by decide +kernel
set_option maxRecDepth 100000 in
theorem ti_1_3_0 : (tiB 1 3 0 && tiB 1 3 1 && tiB 1 3 2) = true := by decide +kernel
set_option maxRecDepth 100000 in
theorem ti_1_3_1 : (tiB 1 3 3 && tiB 1 3 4 && tiB 1 3 5) = true := by decide +kernel
set_option maxRecDepth 100000 in
theorem ti_1_3_2 : (tiB 1 3 6 && tiB 1 3 7 && tiB 1 3 8) = true := by decide +kernel
set_option maxRecDepth 100000 in
theorem ti_1_4_0 : (tiB 1 4 0 && tiB 1 4 1 && tiB 1 4 2) = true := by decide +kernel
set_option maxRecDepth 100000 in
theorem ti_1_4_1 : (tiB 1 4 3 && tiB 1 4 4 && tiB 1 4 5) = true := by decide +kernel
set_option maxRecDepth 100000 in
theorem ti_1_4_2 : (tiB 1 4 6 && tiB 1 4 7 && tiB 1 4 8) = true := by decide +kernel
set_option maxRecDepth 100000 in
theorem ti_1_5_0 : (tiB 1 5 0 && tiB 1 5 1 && tiB 1 5 2) = true := by decide +kernel
set_option maxRecDepth 100000 in
theorem ti_1_5_1 : (tiB 1 5 3 && tiB 1 5 4 && tiB 1 5 5) = true := by decide +kernel
set_option maxRecDepth 100000 in
theorem ti_1_5_2 : (tiB 1 5 6 && tiB 1 5 7 && tiB 1 5 8) = true := by decide +kernel
set_option maxRecDepth 100000 in
theorem ti_1_6_0 : (tiB 1 6 0 && tiB 1 6 1 && tiB 1 6 2) = true := by decide +kernel
set_option maxRecDepth 100000 in
theorem ti_1_6_1 : (tiB 1 6 3 && tiB 1 6 4 && tiB 1 6 5) = true := by decide +kernel
set_option maxRecDepth 100000 in
theorem ti_1_6_2 : (tiB 1 6 6 && tiB 1 6 7 && tiB 1 6 8) = true := by decide +kernel
set_option maxRecDepth 100000 in
theorem ti_1_7_0 : (tiB 1 7 0 && tiB 1 7 1 && tiB 1 7 2) = true := by decide +kernel
set_option maxRecDepth 100000 in
theorem ti_1_7_1 : (tiB 1 7 3 && tiB 1 7 4 && tiB 1 7 5) = true := by decide +kernel
set_option maxRecDepth 100000 in
theorem ti_1_7_2 : (tiB 1 7 6 && tiB 1 7 7 && tiB 1 7 8) = true := by decide +kernel
set_option maxRecDepth 100000 in
theorem ti_1_8_0 : (tiB 1 8 0 && tiB 1 8 1 && tiB 1 8 2) = true := by decide +kernel
set_option maxRecDepth 100000 in
theorem ti_1_8_1 : (tiB 1 8 3 && tiB 1 8 4 && tiB 1 8 5) = true := by decide +kernel
set_option maxRecDepth 100000 in
theorem ti_1_8_2 : (tiB 1 8 6 && tiB 1 8 7 && tiB 1 8 8) = true := by decide +kernel
end Go.Proofs.YtnhidaamfnjdjaaGreatDoor
