import Derived.Test.YtnhidaamfnjdjaaGreatDoorItmA
/- The runs of Timed, reckoned. Written by wip/gentima.py. -/
namespace Go.Proofs.YtnhidaamfnjdjaaGreatDoor
set_option maxRecDepth 100000 in
theorem ti_4_0_0 : (tiB 4 0 0 && tiB 4 0 1 && tiB 4 0 2) = true := by decide +kernel
set_option maxRecDepth 100000 in
theorem ti_4_0_1 : (tiB 4 0 3 && tiB 4 0 4 && tiB 4 0 5) = true := by decide +kernel
set_option maxRecDepth 100000 in
theorem ti_4_0_2 : (tiB 4 0 6 && tiB 4 0 7 && tiB 4 0 8) = true := by decide +kernel
set_option maxRecDepth 100000 in
theorem ti_4_1_0 : (tiB 4 1 0 && tiB 4 1 1 && tiB 4 1 2) = true := by decide +kernel
set_option maxRecDepth 100000 in
theorem ti_4_1_1 : (tiB 4 1 3 && tiB 4 1 4 && tiB 4 1 5) = true := by decide +kernel
set_option maxRecDepth 100000 in
theorem ti_4_1_2 : (tiB 4 1 6 && tiB 4 1 7 && tiB 4 1 8) = true := by decide +kernel
set_option maxRecDepth 100000 in
theorem ti_4_2_0 : (tiB 4 2 0 && tiB 4 2 1 && tiB 4 2 2) = true := by decide +kernel
set_option maxRecDepth 100000 in
theorem ti_4_2_1 : (tiB 4 2 3 && tiB 4 2 4 && tiB 4 2 5) = true := by decide +kernel
set_option maxRecDepth 100000 in
theorem ti_4_2_2 : (tiB 4 2 6 && tiB 4 2 7 && tiB 4 2 8) = true := by decide +kernel
set_option maxRecDepth 100000 in
theorem ti_4_3_0 : (tiB 4 3 0 && tiB 4 3 1 && tiB 4 3 2) = true := by decide +kernel
set_option maxRecDepth 100000 in
theorem ti_4_3_1 : (tiB 4 3 3 && tiB 4 3 4 && tiB 4 3 5) = true := by decide +kernel
set_option maxRecDepth 100000 in
theorem ti_4_3_2 : (tiB 4 3 6 && tiB 4 3 7 && tiB 4 3 8) = true := by decide +kernel
set_option maxRecDepth 100000 in
theorem ti_4_4_0 : (tiB 4 4 0 && tiB 4 4 1 && tiB 4 4 2) = true := by decide +kernel
set_option maxRecDepth 100000 in
theorem ti_4_4_1 : (tiB 4 4 3 && tiB 4 4 4 && tiB 4 4 5) = true := by decide +kernel
set_option maxRecDepth 100000 in
theorem ti_4_4_2 : (tiB 4 4 6 && tiB 4 4 7 && tiB 4 4 8) = true := by decide +kernel
set_option maxRecDepth 100000 in
theorem ti_4_5_0 : (tiB 4 5 0 && tiB 4 5 1 && tiB 4 5 2) = true := by decide +kernel
set_option maxRecDepth 100000 in
theorem ti_4_5_1 : (tiB 4 5 3 && tiB 4 5 4 && tiB 4 5 5) = true := by decide +kernel
set_option maxRecDepth 100000 in
theorem ti_4_5_2 : (tiB 4 5 6 && tiB 4 5 7 && tiB 4 5 8) = true := by decide +kernel
set_option maxRecDepth 100000 in
theorem ti_4_6_0 : (tiB 4 6 0 && tiB 4 6 1 && tiB 4 6 2) = true := by decide +kernel
set_option maxRecDepth 100000 in
theorem ti_4_6_1 : (tiB 4 6 3 && tiB 4 6 4 && tiB 4 6 5) = true := by decide +kernel
set_option maxRecDepth 100000 in
theorem ti_4_6_2 : (tiB 4 6 6 && tiB 4 6 7 && tiB 4 6 8) = true := by decide +kernel
set_option maxRecDepth 100000 in
theorem ti_4_7_0 : (tiB 4 7 0 && tiB 4 7 1 && tiB 4 7 2) = true := by decide +kernel
set_option maxRecDepth 100000 in
theorem ti_4_7_1 : (tiB 4 7 3 && tiB 4 7 4 && tiB 4 7 5) = true := by decide +kernel
set_option maxRecDepth 100000 in
theorem ti_4_7_2 : (tiB 4 7 6 && tiB 4 7 7 && tiB 4 7 8) = true := by decide +kernel
set_option maxRecDepth 100000 in
theorem ti_4_8_0 : (tiB 4 8 0 && tiB 4 8 1 && tiB 4 8 2) = true := by decide +kernel
set_option maxRecDepth 100000 in
theorem ti_4_8_1 : (tiB 4 8 3 && tiB 4 8 4 && tiB 4 8 5) = true := by decide +kernel
set_option maxRecDepth 100000 in
theorem ti_4_8_2 : (tiB 4 8 6 && tiB 4 8 7 && tiB 4 8 8) = true := by decide +kernel
end Go.Proofs.YtnhidaamfnjdjaaGreatDoor
/- The runs of Timed, reckoned. Written by wip/gentima.py. -/
namespace Go.Proofs.YtnhidaamfnjdjaaGreatDoor
set_option maxRecDepth 100000 in
theorem ti_5_0_0 : (tiB 5 0 0 && tiB 5 0 1 && tiB 5 0 2) = true := by decide +kernel
set_option maxRecDepth 100000 in
theorem ti_5_0_1 : (tiB 5 0 3 && tiB 5 0 4 && tiB 5 0 5) = true := by decide +kernel
set_option maxRecDepth 100000 in
theorem ti_5_0_2 : (tiB 5 0 6 && tiB 5 0 7 && tiB 5 0 8) = true := by decide +kernel
set_option maxRecDepth 100000 in
theorem ti_5_1_0 : (tiB 5 1 0 && tiB 5 1 1 && tiB 5 1 2) = true := by decide +kernel
set_option maxRecDepth 100000 in
theorem ti_5_1_1 : (tiB 5 1 3 && tiB 5 1 4 && tiB 5 1 5) = true := by decide +kernel
set_option maxRecDepth 100000 in
theorem ti_5_1_2 : (tiB 5 1 6 && tiB 5 1 7 && tiB 5 1 8) = true := by decide +kernel
set_option maxRecDepth 100000 in
theorem ti_5_2_0 : (tiB 5 2 0 && tiB 5 2 1 && tiB 5 2 2) = true := by decide +kernel
set_option maxRecDepth 100000 in
theorem ti_5_2_1 : (tiB 5 2 3 && tiB 5 2 4 && tiB 5 2 5) = true := by decide +kernel
set_option maxRecDepth 100000 in
theorem ti_5_2_2 : (tiB 5 2 6 && tiB 5 2 7 && tiB 5 2 8) = true := by decide +kernel
set_option maxRecDepth 100000 in
theorem ti_5_3_0 : (tiB 5 3 0 && tiB 5 3 1 && tiB 5 3 2) = true := by decide +kernel
set_option maxRecDepth 100000 in
theorem ti_5_3_1 : (tiB 5 3 3 && tiB 5 3 4 && tiB 5 3 5) = true := by decide +kernel
set_option maxRecDepth 100000 in
theorem ti_5_3_2 : (tiB 5 3 6 && tiB 5 3 7 && tiB 5 3 8) = true := by decide +kernel
set_option maxRecDepth 100000 in
theorem ti_5_4_0 : (tiB 5 4 0 && tiB 5 4 1 && tiB 5 4 2) = true := by decide +kernel
set_option maxRecDepth 100000 in
theorem ti_5_4_1 : (tiB 5 4 3 && tiB 5 4 4 && tiB 5 4 5) = true := by decide +kernel
set_option maxRecDepth 100000 in
theorem ti_5_4_2 : (tiB 5 4 6 && tiB 5 4 7 && tiB 5 4 8) = true := by decide +kernel
set_option maxRecDepth 100000 in
theorem ti_5_5_0 : (tiB 5 5 0 && tiB 5 5 1 && tiB 5 5 2) = true := by decide +kernel
set_option maxRecDepth 100000 in
theorem ti_5_5_1 : (tiB 5 5 3 && tiB 5 5 4 && tiB 5 5 5) = true := by decide +kernel
set_option maxRecDepth 100000 in
theorem ti_5_5_2 : (tiB 5 5 6 && tiB 5 5 7 && tiB 5 5 8) = true := by decide +kernel
set_option maxRecDepth 100000 in
theorem ti_5_6_0 : (tiB 5 6 0 && tiB 5 6 1 && tiB 5 6 2) = true := by decide +kernel
set_option maxRecDepth 100000 in
theorem ti_5_6_1 : (tiB 5 6 3 && tiB 5 6 4 && tiB 5 6 5) = true := by decide +kernel
set_option maxRecDepth 100000 in
theorem ti_5_6_2 : (tiB 5 6 6 && tiB 5 6 7 && tiB 5 6 8) = true := by decide +kernel
set_option maxRecDepth 100000 in
theorem ti_5_7_0 : (tiB 5 7 0 && tiB 5 7 1 && tiB 5 7 2) = true := by decide +kernel
set_option maxRecDepth 100000 in
theorem ti_5_7_1 : (tiB 5 7 3 && tiB 5 7 4 && tiB 5 7 5) = true := by decide +kernel
set_option maxRecDepth 100000 in
theorem ti_5_7_2 : (tiB 5 7 6 && tiB 5 7 7 && tiB 5 7 8) = true := by decide +kernel
set_option maxRecDepth 100000 in
theorem ti_5_8_0 : (tiB 5 8 0 && tiB 5 8 1 && tiB 5 8 2) = true := by decide +kernel
set_option maxRecDepth 100000 in
theorem ti_5_8_1 : (tiB 5 8 3 && tiB 5 8 4 && tiB 5 8 5) = true := by decide +kernel
set_option maxRecDepth 100000 in
theorem ti_5_8_2 : (tiB 5 8 6 && tiB 5 8 7 && tiB 5 8 8) = true := by decide +kernel
end Go.Proofs.YtnhidaamfnjdjaaGreatDoor
