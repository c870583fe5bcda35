import Derived.Test.YtnhidaamfnjdjaaGreatDoorItmA
/- The runs of Timed, reckoned. Written by wip/gentima.py. -/
namespace Go.Proofs.YtnhidaamfnjdjaaGreatDoor
set_option maxRecDepth 100000 in
theorem ti_6_0_0 : (tiB 6 0 0 && tiB 6 0 1 && tiB 6 0 2) = true := by decide +kernel
set_option maxRecDepth 100000 in
theorem ti_6_0_1 : (tiB 6 0 3 && tiB 6 0 4 && tiB 6 0 5) = true := by decide +kernel
set_option maxRecDepth 100000 in
theorem ti_6_0_2 : (tiB 6 0 6 && tiB 6 0 7 && tiB 6 0 8) = true := by decide +kernel
set_option maxRecDepth 100000 in
theorem ti_6_1_0 : (tiB 6 1 0 && tiB 6 1 1 && tiB 6 1 2) = true := by decide +kernel
set_option maxRecDepth 100000 in
theorem ti_6_1_1 : (tiB 6 1 3 && tiB 6 1 4 && tiB 6 1 5) = true := by decide +kernel
set_option maxRecDepth 100000 in
theorem ti_6_1_2 : (tiB 6 1 6 && tiB 6 1 7 && tiB 6 1 8) = true := by decide +kernel
set_option maxRecDepth 100000 in
theorem ti_6_2_0 : (tiB 6 2 0 && tiB 6 2 1 && tiB 6 2 2) = true := by decide +kernel
set_option maxRecDepth 100000 in
theorem ti_6_2_1 : (tiB 6 2 3 && tiB 6 2 4 && tiB 6 2 5) = true := by decide +kernel
set_option maxRecDepth 100000 in
theorem ti_6_2_2 : (tiB 6 2 6 && tiB 6 2 7 && tiB 6 2 8) = true := by decide +kernel
set_option maxRecDepth 100000 in
theorem ti_6_3_0 : (tiB 6 3 0 && tiB 6 3 1 && tiB 6 3 2) = true := by decide +kernel
set_option maxRecDepth 100000 in
theorem ti_6_3_1 : (tiB 6 3 3 && tiB 6 3 4 && tiB 6 3 5) = true := by decide +kernel
set_option maxRecDepth 100000 in
theorem ti_6_3_2 : (tiB 6 3 6 && tiB 6 3 7 && tiB 6 3 8) = true := by decide +kernel
set_option maxRecDepth 100000 in
theorem ti_6_4_0 : (tiB 6 4 0 && tiB 6 4 1 && tiB 6 4 2) = true := by decide +kernel
set_option maxRecDepth 100000 in
theorem ti_6_4_1 : (tiB 6 4 3 && tiB 6 4 4 && tiB 6 4 5) = true := by decide +kernel
set_option maxRecDepth 100000 in
theorem ti_6_4_2 : (tiB 6 4 6 && tiB 6 4 7 && tiB 6 4 8) = true := by decide +kernel
set_option maxRecDepth 100000 in
theorem ti_6_5_0 : (tiB 6 5 0 && tiB 6 5 1 && tiB 6 5 2) = true := by decide +kernel
set_option maxRecDepth 100000 in
theorem ti_6_5_1 : (tiB 6 5 3 && tiB 6 5 4 && tiB 6 5 5) = true := by decide +kernel
set_option maxRecDepth 100000 in
theorem ti_6_5_2 : (tiB 6 5 6 && tiB 6 5 7 && tiB 6 5 8) = true := by decide +kernel
set_option maxRecDepth 100000 in
theorem ti_6_6_0 : (tiB 6 6 0 && tiB 6 6 1 && tiB 6 6 2) = true := by decide +kernel
set_option maxRecDepth 100000 in
theorem ti_6_6_1 : (tiB 6 6 3 && tiB 6 6 4 && tiB 6 6 5) = true := by decide +kernel
set_option maxRecDepth 100000 in
theorem ti_6_6_2 : (tiB 6 6 6 && tiB 6 6 7 && tiB 6 6 8) = true := by decide +kernel
set_option maxRecDepth 100000 in
theorem ti_6_7_0 : (tiB 6 7 0 && tiB 6 7 1 && tiB 6 7 2) = true := by decide +kernel
set_option maxRecDepth 100000 in
theorem ti_6_7_1 : (tiB 6 7 3 && tiB 6 7 4 && tiB 6 7 5) = true := by decide +kernel
set_option maxRecDepth 100000 in
theorem ti_6_7_2 : (tiB 6 7 6 && tiB 6 7 7 && tiB 6 7 8) = true := by decide +kernel
set_option maxRecDepth 100000 in
theorem ti_6_8_0 : (tiB 6 8 0 && tiB 6 8 1 && tiB 6 8 2) = true := by decide +kernel
set_option maxRecDepth 100000 in
theorem ti_6_8_1 : (tiB 6 8 3 && tiB 6 8 4 && tiB 6 8 5) = true := by decide +kernel
set_option maxRecDepth 100000 in
theorem ti_6_8_2 : (tiB 6 8 6 && tiB 6 8 7 && tiB 6 8 8) = true := by decide +kernel
end Go.Proofs.YtnhidaamfnjdjaaGreatDoor
/- The runs of Timed, reckoned. Written by wip/gentima.py. -/
namespace Go.Proofs.YtnhidaamfnjdjaaGreatDoor
set_option maxRecDepth 100000 in
theorem ti_7_0_0 : (tiB 7 0 0 && tiB 7 0 1 && tiB 7 0 2) = true := by decide +kernel
set_option maxRecDepth 100000 in
theorem ti_7_0_1 : (tiB 7 0 3 && tiB 7 0 4 && tiB 7 0 5) = true := by decide +kernel
set_option maxRecDepth 100000 in
theorem ti_7_0_2 : (tiB 7 0 6 && tiB 7 0 7 && tiB 7 0 8) = true := by decide +kernel
set_option maxRecDepth 100000 in
theorem ti_7_1_0 : (tiB 7 1 0 && tiB 7 1 1 && tiB 7 1 2) = true := by decide +kernel
set_option maxRecDepth 100000 in
theorem ti_7_1_1 : (tiB 7 1 3 && tiB 7 1 4 && tiB 7 1 5) = true := by decide +kernel
set_option maxRecDepth 100000 in
theorem ti_7_1_2 : (tiB 7 1 6 && tiB 7 1 7 && tiB 7 1 8) = true := by decide +kernel
set_option maxRecDepth 100000 in
theorem ti_7_2_0 : (tiB 7 2 0 && tiB 7 2 1 && tiB 7 2 2) = true := by decide +kernel
set_option maxRecDepth 100000 in
theorem ti_7_2_1 : (tiB 7 2 3 && tiB 7 2 4 && tiB 7 2 5) = true := by decide +kernel
set_option maxRecDepth 100000 in
theorem ti_7_2_2 : (tiB 7 2 6 && tiB 7 2 7 && tiB 7 2 8) = true := by decide +kernel
set_option maxRecDepth 100000 in
theorem ti_7_3_0 : (tiB 7 3 0 && tiB 7 3 1 && tiB 7 3 2) = true := by decide +kernel
set_option maxRecDepth 100000 in
theorem ti_7_3_1 : (tiB 7 3 3 && tiB 7 3 4 && tiB 7 3 5) = true := by decide +kernel
set_option maxRecDepth 100000 in
theorem ti_7_3_2 : (tiB 7 3 6 && tiB 7 3 7 && tiB 7 3 8) = true := by decide +kernel
set_option maxRecDepth 100000 in
theorem ti_7_4_0 : (tiB 7 4 0 && tiB 7 4 1 && tiB 7 4 2) = true := by decide +kernel
set_option maxRecDepth 100000 in
theorem ti_7_4_1 : (tiB 7 4 3 && tiB 7 4 4 && tiB 7 4 5) = true := by decide +kernel
set_option maxRecDepth 100000 in
theorem ti_7_4_2 : (tiB 7 4 6 && tiB 7 4 7 && tiB 7 4 8) = true := by decide +kernel
set_option maxRecDepth 100000 in
theorem ti_7_5_0 : (tiB 7 5 0 && tiB 7 5 1 && tiB 7 5 2) = true := by decide +kernel
set_option maxRecDepth 100000 in
theorem ti_7_5_1 : (tiB 7 5 3 && tiB 7 5 4 && tiB 7 5 5) = true := by decide +kernel
set_option maxRecDepth 100000 in
theorem ti_7_5_2 : (tiB 7 5 6 && tiB 7 5 7 && tiB 7 5 8) = true := by decide +kernel
set_option maxRecDepth 100000 in
theorem ti_7_6_0 : (tiB 7 6 0 && tiB 7 6 1 && tiB 7 6 2) = true := by decide +kernel
set_option maxRecDepth 100000 in
theorem ti_7_6_1 : (tiB 7 6 3 && tiB 7 6 4 && tiB 7 6 5) = true := by decide +kernel
set_option maxRecDepth 100000 in
theorem ti_7_6_2 : (tiB 7 6 6 && tiB 7 6 7 && tiB 7 6 8) = true := by decide +kernel
set_option maxRecDepth 100000 in
theorem ti_7_7_0 : (tiB 7 7 0 && tiB 7 7 1 && tiB 7 7 2) = true := by decide +kernel
set_option maxRecDepth 100000 in
theorem ti_7_7_1 : (tiB 7 7 3 && tiB 7 7 4 && tiB 7 7 5) = true := by decide +kernel
set_option maxRecDepth 100000 in
theorem ti_7_7_2 : (tiB 7 7 6 && tiB 7 7 7 && tiB 7 7 8) = true := by decide +kernel
set_option maxRecDepth 100000 in
theorem ti_7_8_0 : (tiB 7 8 0 && tiB 7 8 1 && tiB 7 8 2) = true := by decide +kernel
set_option maxRecDepth 100000 in
theorem ti_7_8_1 : (tiB 7 8 3 && tiB 7 8 4 && tiB 7 8 5) = true := by decide +kernel
set_option maxRecDepth 100000 in
theorem ti_7_8_2 : (tiB 7 8 6 && tiB 7 8 7 && tiB 7 8 8) = true := by decide +kernel
end Go.Proofs.YtnhidaamfnjdjaaGreatDoor
