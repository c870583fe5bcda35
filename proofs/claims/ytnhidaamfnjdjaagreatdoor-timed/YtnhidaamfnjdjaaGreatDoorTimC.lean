import Derived.Test.YtnhidaamfnjdjaaGreatDoorItmA
import Derived.Test.YtnhidaamfnjdjaaGreatDoorTimB0
import Derived.Test.YtnhidaamfnjdjaaGreatDoorTimB2
import Derived.Test.YtnhidaamfnjdjaaGreatDoorTimB4
import Derived.Test.YtnhidaamfnjdjaaGreatDoorTimB6
import Derived.Test.YtnhidaamfnjdjaaGreatDoorTimB8
/- THE TEXTS OF Timed: each line is read as it is meant. -/
namespace Go.Proofs.YtnhidaamfnjdjaaGreatDoor
open Go.RowKit Go.Maps

def tiW (k : Nat) : Itm := ⟨5, [119, 97, 105, 116, 32] ++ digK (k + 1), ⟨6, [], [], (.num (k + 1 : Nat))⟩⟩
theorem tiW_ok : ∀ k, k < 9 → (tiW k).ok = true := by decide +kernel
theorem tiItems_ok (x y z : Nat) (hx : x < 9) (hy : y < 9) (hz : z < 9) : ∀ i ∈ tiItems x y z, i.ok = true := by
  intro i hi
  unfold tiItems at hi
  simp only [List.mem_cons, List.not_mem_nil, or_false] at hi
  rcases hi with rfl | rfl | rfl | rfl | rfl | rfl | rfl | rfl | rfl | rfl | rfl | rfl | rfl | rfl | rfl | rfl | rfl | rfl | rfl | rfl | rfl | rfl | rfl | rfl | rfl | rfl | rfl | rfl | rfl
  · decide +kernel
  · decide +kernel
  · decide +kernel
  · decide +kernel
  · decide +kernel
  · exact tiW_ok x hx
  · decide +kernel
  · decide +kernel
  · exact tiW_ok y hy
  · decide +kernel
  · decide +kernel
  · exact tiW_ok z hz
  all_goals decide +kernel
theorem nine {f : Nat → Bool} (h0 : (f 0 && f 1 && f 2) = true) (h1 : (f 3 && f 4 && f 5) = true) (h2 : (f 6 && f 7 && f 8) = true) (z : Nat) (hz : z < 9) : f z = true := by
  simp only [Bool.and_eq_true] at h0 h1 h2
  have c : z = 0 ∨ z = 1 ∨ z = 2 ∨ z = 3 ∨ z = 4 ∨ z = 5 ∨ z = 6 ∨ z = 7 ∨ z = 8 := by omega
  rcases c with rfl | rfl | rfl | rfl | rfl | rfl | rfl | rfl | rfl
  · exact h0.1.1
  · exact h0.1.2
  · exact h0.2
  · exact h1.1.1
  · exact h1.1.2
  · exact h1.2
  · exact h2.1.1
  · exact h2.1.2
  · exact h2.2
end Go.Proofs.YtnhidaamfnjdjaaGreatDoor
/- Timed: all runs. Written by wip/gentima.py. -/
namespace Go.Proofs.YtnhidaamfnjdjaaGreatDoor
theorem ti_all (x y z : Nat) (hx : x < 9) (hy : y < 9) (hz : z < 9) : tiB x y z = true := by
  have cx : x = 0 ∨ x = 1 ∨ x = 2 ∨ x = 3 ∨ x = 4 ∨ x = 5 ∨ x = 6 ∨ x = 7 ∨ x = 8 := by omega
  have cy : y = 0 ∨ y = 1 ∨ y = 2 ∨ y = 3 ∨ y = 4 ∨ y = 5 ∨ y = 6 ∨ y = 7 ∨ y = 8 := by omega
  rcases cx with rfl | rfl | rfl | rfl | rfl | rfl | rfl | rfl | rfl
  · rcases cy with rfl | rfl | rfl | rfl | rfl | rfl | rfl | rfl | rfl
    · exact nine (f := tiB 0 0) ti_0_0_0 ti_0_0_1 ti_0_0_2 z hz
    · exact nine (f := tiB 0 1) ti_0_1_0 ti_0_1_1 ti_0_1_2 z hz
    · exact nine (f := tiB 0 2) ti_0_2_0 ti_0_2_1 ti_0_2_2 z hz
    · exact nine (f := tiB 0 3) ti_0_3_0 ti_0_3_1 ti_0_3_2 z hz
    · exact nine (f := tiB 0 4) ti_0_4_0 ti_0_4_1 ti_0_4_2 z hz
    · exact nine (f := tiB 0 5) ti_0_5_0 ti_0_5_1 ti_0_5_2 z hz
    · exact nine (f := tiB 0 6) ti_0_6_0 ti_0_6_1 ti_0_6_2 z hz
    · exact nine (f := tiB 0 7) ti_0_7_0 ti_0_7_1 ti_0_7_2 z hz
    · exact nine (f := tiB 0 8) ti_0_8_0 ti_0_8_1 ti_0_8_2 z hz
  · rcases cy with rfl | rfl | rfl | rfl | rfl | rfl | rfl | rfl | rfl
    · exact nine (f := tiB 1 0) ti_1_0_0 ti_1_0_1 ti_1_0_2 z hz
    · exact nine (f := tiB 1 1) ti_1_1_0 ti_1_1_1 ti_1_1_2 z hz
    · exact nine (f := tiB 1 2) ti_1_2_0 ti_1_2_1 ti_1_2_2 z hz
    · exact nine (f := tiB 1 3) ti_1_3_0 ti_1_3_1 ti_1_3_2 z hz
    · exact nine (f := tiB 1 4) ti_1_4_0 ti_1_4_1 ti_1_4_2 z hz
    · exact nine (f := tiB 1 5) ti_1_5_0 ti_1_5_1 ti_1_5_2 z hz
    · exact nine (f := tiB 1 6) ti_1_6_0 ti_1_6_1 ti_1_6_2 z hz
    · exact nine (f := tiB 1 7) ti_1_7_0 ti_1_7_1 ti_1_7_2 z hz
    · exact nine (f := tiB 1 8) ti_1_8_0 ti_1_8_1 ti_1_8_2 z hz
  · rcases cy with rfl | rfl | rfl | rfl | rfl | rfl | rfl | rfl | rfl
    · exact nine (f := tiB 2 0) ti_2_0_0 ti_2_0_1 ti_2_0_2 z hz
    · exact nine (f := tiB 2 1) ti_2_1_0 ti_2_1_1 ti_2_1_2 z hz
    · exact nine (f := tiB 2 2) ti_2_2_0 ti_2_2_1 ti_2_2_2 z hz
    · exact nine (f := tiB 2 3) ti_2_3_0 ti_2_3_1 ti_2_3_2 z hz
    · exact nine (f := tiB 2 4) ti_2_4_0 ti_2_4_1 ti_2_4_2 z hz
    · exact nine (f := tiB 2 5) ti_2_5_0 ti_2_5_1 ti_2_5_2 z hz
    · exact nine (f := tiB 2 6) ti_2_6_0 ti_2_6_1 ti_2_6_2 z hz
    · exact nine (f := tiB 2 7) ti_2_7_0 ti_2_7_1 ti_2_7_2 z hz
    · exact nine (f := tiB 2 8) ti_2_8_0 ti_2_8_1 ti_2_8_2 z hz
  · rcases cy with rfl | rfl | rfl | rfl | rfl | rfl | rfl | rfl | rfl
    · exact nine (f := tiB 3 0) ti_3_0_0 ti_3_0_1 ti_3_0_2 z hz
    · exact nine (f := tiB 3 1) ti_3_1_0 ti_3_1_1 ti_3_1_2 z hz
    · exact nine (f := tiB 3 2) ti_3_2_0 ti_3_2_1 ti_3_2_2 z hz
    · exact nine (f := tiB 3 3) ti_3_3_0 ti_3_3_1 ti_3_3_2 z hz
    · exact nine (f := tiB 3 4) ti_3_4_0 ti_3_4_1 ti_3_4_2 z hz
    · exact nine (f := tiB 3 5) ti_3_5_0 ti_3_5_1 ti_3_5_2 z hz
    · exact nine (f := tiB 3 6) ti_3_6_0 ti_3_6_1 ti_3_6_2 z hz
    · exact nine (f := tiB 3 7) ti_3_7_0 ti_3_7_1 ti_3_7_2 z hz
    · exact nine (f := tiB 3 8) ti_3_8_0 ti_3_8_1 ti_3_8_2 z hz
  · rcases cy with rfl | rfl | rfl | rfl | rfl | rfl | rfl | rfl | rfl
    · exact nine (f := tiB 4 0) ti_4_0_0 ti_4_0_1 ti_4_0_2 z hz
    · exact nine (f := tiB 4 1) ti_4_1_0 ti_4_1_1 ti_4_1_2 z hz
    · exact nine (f := tiB 4 2) ti_4_2_0 ti_4_2_1 ti_4_2_2 z hz
    · exact nine (f := tiB 4 3) ti_4_3_0 ti_4_3_1 ti_4_3_2 z hz
    · exact nine (f := tiB 4 4) ti_4_4_0 ti_4_4_1 ti_4_4_2 z hz
    · exact nine (f := tiB 4 5) ti_4_5_0 ti_4_5_1 ti_4_5_2 z hz
    · exact nine (f := tiB 4 6) ti_4_6_0 ti_4_6_1 ti_4_6_2 z hz
    · exact nine (f := tiB 4 7) ti_4_7_0 ti_4_7_1 ti_4_7_2 z hz
    · exact nine (f := tiB 4 8) ti_4_8_0 ti_4_8_1 ti_4_8_2 z hz
  · rcases cy with rfl | rfl | rfl | rfl | rfl | rfl | rfl | rfl | rfl
    · exact nine (f := tiB 5 0) ti_5_0_0 ti_5_0_1 ti_5_0_2 z hz
    · exact nine (f := tiB 5 1) ti_5_1_0 ti_5_1_1 ti_5_1_2 z hz
    · exact nine (f := tiB 5 2) ti_5_2_0 ti_5_2_1 ti_5_2_2 z hz
    · exact nine (f := tiB 5 3) ti_5_3_0 ti_5_3_1 ti_5_3_2 z hz
    · exact nine (f := tiB 5 4) ti_5_4_0 ti_5_4_1 ti_5_4_2 z hz
    · exact nine (f := tiB 5 5) ti_5_5_0 ti_5_5_1 ti_5_5_2 z hz
    · exact nine (f := tiB 5 6) ti_5_6_0 ti_5_6_1 ti_5_6_2 z hz
    · exact nine (f := tiB 5 7) ti_5_7_0 ti_5_7_1 ti_5_7_2 z hz
    · exact nine (f := tiB 5 8) ti_5_8_0 ti_5_8_1 ti_5_8_2 z hz
  · rcases cy with rfl | rfl | rfl | rfl | rfl | rfl | rfl | rfl | rfl
    · exact nine (f := tiB 6 0) ti_6_0_0 ti_6_0_1 ti_6_0_2 z hz
    · exact nine (f := tiB 6 1) ti_6_1_0 ti_6_1_1 ti_6_1_2 z hz
    · exact nine (f := tiB 6 2) ti_6_2_0 ti_6_2_1 ti_6_2_2 z hz
    · exact nine (f := tiB 6 3) ti_6_3_0 ti_6_3_1 ti_6_3_2 z hz
    · exact nine (f := tiB 6 4) ti_6_4_0 ti_6_4_1 ti_6_4_2 z hz
    · exact nine (f := tiB 6 5) ti_6_5_0 ti_6_5_1 ti_6_5_2 z hz
    · exact nine (f := tiB 6 6) ti_6_6_0 ti_6_6_1 ti_6_6_2 z hz
    · exact nine (f := tiB 6 7) ti_6_7_0 ti_6_7_1 ti_6_7_2 z hz
    · exact nine (f := tiB 6 8) ti_6_8_0 ti_6_8_1 ti_6_8_2 z hz
  · rcases cy with rfl | rfl | rfl | rfl | rfl | rfl | rfl | rfl | rfl
    · exact nine (f := tiB 7 0) ti_7_0_0 ti_7_0_1 ti_7_0_2 z hz
    · exact nine (f := tiB 7 1) ti_7_1_0 ti_7_1_1 ti_7_1_2 z hz
    · exact nine (f := tiB 7 2) ti_7_2_0 ti_7_2_1 ti_7_2_2 z hz
    · exact nine (f := tiB 7 3) ti_7_3_0 ti_7_3_1 ti_7_3_2 z hz
    · exact nine (f := tiB 7 4) ti_7_4_0 ti_7_4_1 ti_7_4_2 z hz
    · exact nine (f := tiB 7 5) ti_7_5_0 ti_7_5_1 ti_7_5_2 z hz
    · exact nine (f := tiB 7 6) ti_7_6_0 ti_7_6_1 ti_7_6_2 z hz
    · exact nine (f := tiB 7 7) ti_7_7_0 ti_7_7_1 ti_7_7_2 z hz
    · exact nine (f := tiB 7 8) ti_7_8_0 ti_7_8_1 ti_7_8_2 z hz
  · rcases cy with rfl | rfl | rfl | rfl | rfl | rfl | rfl | rfl | rfl
    · exact nine (f := tiB 8 0) ti_8_0_0 ti_8_0_1 ti_8_0_2 z hz
    · exact nine (f := tiB 8 1) ti_8_1_0 ti_8_1_1 ti_8_1_2 z hz
    · exact nine (f := tiB 8 2) ti_8_2_0 ti_8_2_1 ti_8_2_2 z hz
    · exact nine (f := tiB 8 3) ti_8_3_0 ti_8_3_1 ti_8_3_2 z hz
    · exact nine (f := tiB 8 4) ti_8_4_0 ti_8_4_1 ti_8_4_2 z hz
    · exact nine (f := tiB 8 5) ti_8_5_0 ti_8_5_1 ti_8_5_2 z hz
    · exact nine (f := tiB 8 6) ti_8_6_0 ti_8_6_1 ti_8_6_2 z hz
    · exact nine (f := tiB 8 7) ti_8_7_0 ti_8_7_1 ti_8_7_2 z hz
    · exact nine (f := tiB 8 8) ti_8_8_0 ti_8_8_1 ti_8_8_2 z hz
end Go.Proofs.YtnhidaamfnjdjaaGreatDoor
