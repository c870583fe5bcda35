import Derived.Test.YtnhidaamfnjdjaaGreatDoorItmA
/- The runs of Timed, reckoned. Written by wip/gentima.py. -/
namespace Go.Proofs.YtnhidaamfnjdjaaGreatDoor
set_option maxRecDepth 100000 in
theorem ti_2_0_0 : (tiB 2 0 0 && tiB 2 0 1 && tiB 2 0 2) = true := by decide +kernel
set_option maxRecDepth 100000 in
theorem ti_2_0_1 : (tiB 2 0 3 && tiB 2 0 4 && tiB 2 0 5) = true := by decide +kernel
set_option maxRecDepth 100000 in
theorem ti_2_0_2 : (tiB 2 0 6 && tiB 2 0 7 && tiB 2 0 8) = true := by decide +kernel
set_option maxRecDepth 100000 in
theorem ti_2_1_0 : (tiB 2 1 0 && tiB 2 1 1 && tiB 2 1 2) = true := by decide +kernel
set_option maxRecDepth 100000 in
theorem ti_2_1_1 : (tiB 2 1 3 && tiB 2 1 4 && tiB 2 1 5) = true := by decide +kernel
set_option maxRecDepth 100000 in
theorem ti_2_1_2 : (tiB 2 1 6 && tiB 2 1 7 && tiB 2 1 8) = true := by decide +kernel
set_option maxRecDepth 100000 in
theorem ti_2_2_0 : (tiB 2 2 0 && tiB 2 2 1 && tiB 2 2 2) = true := by decide +kernel
set_option maxRecDepth 100000 in
theorem ti_2_2_1 : (tiB 2 2 3 && tiB 2 2 4 && tiB 2 2 5) = true := by decide +kernel
set_option maxRecDepth 100000 in
theorem ti_2_2_2 : (tiB 2 2 6 && tiB 2 2 7 && tiB 2 2 8) = true := by decide +kernel
set_option maxRecDepth 100000 in
theorem ti_2_3_0 : (tiB 2 3 0 && tiB 2 3 1 && tiB 2 3 2) = true := by decide +kernel
set_option maxRecDepth 100000 in
theorem ti_2_3_1 : (tiB 2 3 3 && tiB 2 3 4 && tiB 2 3 5) = true := by decide +kernel
set_option maxRecDepth 100000 in
theorem ti_2_3_2 : (tiB 2 3 6 && tiB 2 3 7 && tiB 2 3 8) = true := by decide +kernel
set_option maxRecDepth 100000 in
theorem ti_2_4_0 : (tiB 2 4 0 && tiB 2 4 1 && tiB 2 4 2) = true := by decide +kernel
set_option maxRecDepth 100000 in
theorem ti_2_4_1 : (tiB 2 4 3 && tiB 2 4 4 && tiB 2 4 5) = true := by decide +kernel
set_option maxRecDepth 100000 in
theorem ti_2_4_2 : (tiB 2 4 6 && tiB 2 4 7 && tiB 2 4 8) = true := by decide +kernel
set_option maxRecDepth 100000 in
theorem ti_2_5_0 : (tiB 2 5 0 && tiB 2 5 1 && tiB 2 5 2) = true := by decide +kernel
set_option maxRecDepth 100000 in
theorem ti_2_5_1 : (tiB 2 5 3 && tiB 2 5 4 && tiB 2 5 5) = true := by decide +kernel
set_option maxRecDepth 100000 in
theorem ti_2_5_2 : (tiB 2 5 6 && tiB 2 5 7 && tiB 2 5 8) = true := by decide +kernel
set_option maxRecDepth 100000 in
theorem ti_2_6_0 : (tiB 2 6 0 && tiB 2 6 1 && tiB 2 6 2) = true := by decide +kernel
set_option maxRecDepth 100000 in
theorem ti_2_6_1 : (tiB 2 6 3 && tiB 2 6 4 && tiB 2 6 5) = true := by decide +kernel
set_option maxRecDepth 100000 in
theorem ti_2_6_2 : (tiB 2 6 6 && tiB 2 6 7 && tiB 2 6 8) = true := by decide +kernel
set_option maxRecDepth 100000 in
theorem ti_2_7_0 : (tiB 2 7 0 && tiB 2 7 1 && tiB 2 7 2) = true := by decide +kernel
set_option maxRecDepth 100000 in
theorem ti_2_7_1 : (tiB 2 7 3 && tiB 2 7 4 && tiB 2 7 5) = true := by decide +kernel
set_option maxRecDepth 100000 in
theorem ti_2_7_2 : (tiB 2 7 6 && tiB 2 7 7 && tiB 2 7 8) = true := by decide +kernel
set_option maxRecDepth 100000 in
theorem ti_2_8_0 : (tiB 2 8 0 && tiB 2 8 1 && tiB 2 8 2) = true := by decide +kernel
set_option maxRecDepth 100000 in
theorem ti_2_8_1 : (tiB 2 8 3 && tiB 2 8 4 && tiB 2 8 5) = true := by decide +kernel
set_option maxRecDepth 100000 in
theorem ti_2_8_2 : (tiB 2 8 6 && tiB 2 8 7 && tiB 2 8 8) = true := by decide +kernel
end Go.Proofs.YtnhidaamfnjdjaaGreatDoor
/- The runs of Timed, reckoned. Written by wip/gentima.py. -/
namespace Go.Proofs.YtnhidaamfnjdjaaGreatDoor
set_option maxRecDepth 100000 in
theorem ti_3_0_0 : (tiB 3 0 0 && tiB 3 0 1 && tiB 3 0 2) = true := by decide +kernel
set_option maxRecDepth 100000 in
theorem ti_3_0_1 : (tiB 3 0 3 && tiB 3 0 4 && tiB 3 0 5) = true := by decide +kernel
set_option maxRecDepth 100000 in
theorem ti_3_0_2 : (tiB 3 0 6 && tiB 3 0 7 && tiB 3 0 8) = true := by decide +kernel
set_option maxRecDepth 100000 in
theorem ti_3_1_0 : (tiB 3 1 0 && tiB 3 1 1 && tiB 3 1 2) = true := by decide +kernel
set_option maxRecDepth 100000 in
theorem ti_3_1_1 : (tiB 3 1 3 && tiB 3 1 4 && tiB 3 1 5) = true := by decide +kernel
set_option maxRecDepth 100000 in
theorem ti_3_1_2 : (tiB 3 1 6 && tiB 3 1 7 && tiB 3 1 8) = true := by decide +kernel
set_option maxRecDepth 100000 in
theorem ti_3_2_0 : (tiB 3 2 0 && tiB 3 2 1 && tiB 3 2 2) = true := by decide +kernel
set_option maxRecDepth 100000 in
theorem ti_3_2_1 : (tiB 3 2 3 && tiB 3 2 4 && tiB 3 2 5) = true := by decide +kernel
set_option maxRecDepth 100000 in
theorem ti_3_2_2 : (tiB 3 2 6 && tiB 3 2 7 && tiB 3 2 8) = true := by decide +kernel
set_option maxRecDepth 100000 in
theorem ti_3_3_0 : (tiB 3 3 0 && tiB 3 3 1 && tiB 3 3 2) = true := by decide +kernel
set_option maxRecDepth 100000 in
theorem ti_3_3_1 : (tiB 3 3 3 && tiB 3 3 4 && tiB 3 3 5) = true := by decide +kernel
set_option maxRecDepth 100000 in
theorem ti_3_3_2 : (tiB 3 3 6 && tiB 3 3 7 && tiB 3 3 8) = true := by decide +kernel
set_option maxRecDepth 100000 in
theorem ti_3_4_0 : (tiB 3 4 0 && tiB 3 4 1 && tiB 3 4 2) = true := by decide +kernel
set_option maxRecDepth 100000 in
theorem ti_3_4_1 : (tiB 3 4 3 && tiB 3 4 4 && tiB 3 4 5) = true := by decide +kernel
set_option maxRecDepth 100000 in
theorem ti_3_4_2 : (tiB 3 4 6 && tiB 3 4 7 && tiB 3 4 8) = true := by decide +kernel
set_option maxRecDepth 100000 in
theorem ti_3_5_0 : (tiB 3 5 0 && tiB 3 5 1 && tiB 3 5 2) = true := by decide +kernel
set_option maxRecDepth 100000 in
theorem ti_3_5_1 : (tiB 3 5 3 && tiB 3 5 4 && tiB 3 5 5) = true := by decide +kernel
set_option maxRecDepth 100000 in
theorem ti_3_5_2 : (tiB 3 5 6 && tiB 3 5 7 && tiB 3 5 8) = true := by decide +kernel
set_option maxRecDepth 100000 in
theorem ti_3_6_0 : (tiB 3 6 0 && tiB 3 6 1 && tiB 3 6 2) = true := by decide +kernel
set_option maxRecDepth 100000 in
theorem ti_3_6_1 : (tiB 3 6 3 && tiB 3 6 4 && tiB 3 6 5) = true := by decide +kernel
set_option maxRecDepth 100000 in
theorem ti_3_6_2 : (tiB 3 6 6 && tiB 3 6 7 && tiB 3 6 8) = true := by decide +kernel
set_option maxRecDepth 100000 in
theorem ti_3_7_0 : (tiB 3 7 0 && tiB 3 7 1 && tiB 3 7 2) = true := by decide +kernel
set_option maxRecDepth 100000 in
theorem ti_3_7_1 : (tiB 3 7 3 && tiB 3 7 4 && tiB 3 7 5) = true := by decide +kernel
set_option maxRecDepth 100000 in
theorem ti_3_7_2 : (tiB 3 7 6 && tiB 3 7 7 && tiB 3 7 8) = true := by decide +kernel
set_option maxRecDepth 100000 in
theorem ti_3_8_0 : (tiB 3 8 0 && tiB 3 8 1 && tiB 3 8 2) = true := by decide +kernel
set_option maxRecDepth 100000 in
theorem ti_3_8_1 : (tiB 3 8 3 && tiB 3 8 4 && tiB 3 8 5) = true := by decide +kernel
set_option maxRecDepth 100000 in
theorem ti_3_8_2 : (tiB 3 8 6 && tiB 3 8 7 && tiB 3 8 8) = true := by decide +kernel
end Go.Proofs.YtnhidaamfnjdjaaGreatDoor
