import Derived.Test.YtnhidaamfnjdjaaGreatDoorItmA
/- The runs of Timed, reckoned. Written by wip/gentima.py. -/
namespace Go.Proofs.YtnhidaamfnjdjaaGreatDoor
set_option maxRecDepth 100000 in
theorem ti_8_0_0 : (tiB 8 0 0 && tiB 8 0 1 && tiB 8 0 2) = true := by decide +kernel
set_option maxRecDepth 100000 in
theorem ti_8_0_1 : (tiB 8 0 3 && tiB 8 0 4 && tiB 8 0 5) = true := by decide +kernel
set_option maxRecDepth 100000 in
theorem ti_8_0_2 : (tiB 8 0 6 && tiB 8 0 7 && tiB 8 0 8) = true := by decide +kernel
set_option maxRecDepth 100000 in
theorem ti_8_1_0 : (tiB 8 1 0 && tiB 8 1 1 && tiB 8 1 2) = true := by decide +kernel
set_option maxRecDepth 100000 in
theorem ti_8_1_1 : (tiB 8 1 3 && tiB 8 1 4 && tiB 8 1 5) = true := by decide +kernel
set_option maxRecDepth 100000 in
theorem ti_8_1_2 : (tiB 8 1 6 && tiB 8 1 7 && tiB 8 1 8) = true := by decide +kernel
set_option maxRecDepth 100000 in
theorem ti_8_2_0 : (tiB 8 2 0 && tiB 8 2 1 && tiB 8 2 2) = true := by decide +kernel
set_option maxRecDepth 100000 in
theorem ti_8_2_1 : (tiB 8 2 3 && tiB 8 2 4 && tiB 8 2 5) = true := by decide +kernel
set_option maxRecDepth 100000 in
theorem ti_8_2_2 : (tiB 8 2 6 && tiB 8 2 7 && tiB 8 2 8) = true := by decide +kernel
set_option maxRecDepth 100000 in
theorem ti_8_3_0 : (tiB 8 3 0 && tiB 8 3 1 && tiB 8 3 2) = true := by decide +kernel
set_option maxRecDepth 100000 in
theorem ti_8_3_1 : (tiB 8 3 3 && tiB 8 3 4 && tiB 8 3 5) = true := by decide +kernel
set_option maxRecDepth 100000 in
theorem ti_8_3_2 : (tiB 8 3 6 && tiB 8 3 7 && tiB 8 3 8) = true := by decide +kernel
set_option maxRecDepth 100000 in
theorem ti_8_4_0 : (tiB 8 4 0 && tiB 8 4 1 && tiB 8 4 2) = true := by decide +kernel
set_option maxRecDepth 100000 in
theorem ti_8_4_1 : (tiB 8 4 3 && tiB 8 4 4 && tiB 8 4 5) = true := by decide +kernel
set_option maxRecDepth 100000 in
theorem ti_8_4_2 : (tiB 8 4 6 && tiB 8 4 7 && tiB 8 4 8) = true := by decide +kernel
set_option maxRecDepth 100000 in
theorem ti_8_5_0 : (tiB 8 5 0 && tiB 8 5 1 && tiB 8 5 2) = true := by decide +kernel
set_option maxRecDepth 100000 in
theorem ti_8_5_1 : (tiB 8 5 3 && tiB 8 5 4 && tiB 8 5 5) = true := by decide +kernel
set_option maxRecDepth 100000 in
theorem ti_8_5_2 : (tiB 8 5 6 && tiB 8 5 7 && tiB 8 5 8) = true := by decide +kernel
set_option maxRecDepth 100000 in
theorem ti_8_6_0 : (tiB 8 6 0 && tiB 8 6 1 && tiB 8 6 2) = true := by decide +kernel
set_option maxRecDepth 100000 in
theorem ti_8_6_1 : (tiB 8 6 3 && tiB 8 6 4 && tiB 8 6 5) = true := by decide +kernel
set_option maxRecDepth 100000 in
theorem ti_8_6_2 : (tiB 8 6 6 && tiB 8 6 7 && tiB 8 6 8) = true := by decide +kernel
set_option maxRecDepth 100000 in
theorem ti_8_7_0 : (tiB 8 7 0 && tiB 8 7 1 && tiB 8 7 2) = true := by decide +kernel
set_option maxRecDepth 100000 in
theorem ti_8_7_1 : (tiB 8 7 3 && tiB 8 7 4 && tiB 8 7 5) = true := by decide +kernel
set_option maxRecDepth 100000 in
theorem ti_8_7_2 : (tiB 8 7 6 && tiB 8 7 7 && tiB 8 7 8) = true := by decide +kernel
set_option maxRecDepth 100000 in
theorem ti_8_8_0 : (tiB 8 8 0 && tiB 8 8 1 && tiB 8 8 2) = true := by decide +kernel
set_option maxRecDepth 100000 in
theorem ti_8_8_1 : (tiB 8 8 3 && tiB 8 8 4 && tiB 8 8 5) = true := by decide +kernel
set_option maxRecDepth 100000 in
theorem ti_8_8_2 : (tiB 8 8 6 && tiB 8 8 7 && tiB 8 8 8) = true := by decide +kernel
end Go.Proofs.YtnhidaamfnjdjaaGreatDoor
