import Derived.Test.YtnhidaamfnjdjaaGreatDoorPlnC
/- THE THIRD TEXT OF Plain, plain. Nothing of the dump. -/
namespace Go.Proofs.YtnhidaamfnjdjaaGreatDoor
open Go.RowKit Go.Maps

def plN (k : Nat) : List Itm := [
  ⟨0, [118, 97, 114, 32, 105], ⟨15, [105], [], .nil⟩⟩,
  ⟨1, [118, 97, 114, 32, 115], ⟨15, [115], [], .nil⟩⟩,
  ⟨2, [115, 101, 113], ⟨7, [], [], .nil⟩⟩,
  ⟨3, [119, 104, 105, 108, 101, 32, 105, 32, 60, 32] ++ digX k, ⟨10, [], [], .pair 60 (.var [105] 0) (.num (k : Int))⟩⟩,
  ⟨4, [115, 101, 113], ⟨7, [], [], .nil⟩⟩,
  ⟨5, [105, 32, 58, 61, 32, 105, 32, 43, 32, 49], ⟨3, [105], [], .pair 43 (.var [105] 0) (.num 1)⟩⟩,
  ⟨5, [105, 102], ⟨11, [], [], .nil⟩⟩,
  ⟨6, [119, 104, 101, 110, 32, 40, 105, 32, 37, 32, 50, 41, 32, 61, 32, 48], ⟨12, [], [], .pair 61 (.pair 37 (.var [105] 0) (.num 2)) (.num 0)⟩⟩,
  ⟨7, [115, 32, 58, 61, 32, 115, 32, 43, 32, 105], ⟨3, [115], [], .pair 43 (.var [115] 0) (.var [105] 0)⟩⟩,
  ⟨6, [119, 104, 101, 110, 32, 49], ⟨12, [], [], .num 1⟩⟩,
  ⟨7, [115, 32, 58, 61, 32, 115, 32, 45, 32, 49], ⟨3, [115], [], .pair 45 (.var [115] 0) (.num 1)⟩⟩,
  ⟨3, [111, 117, 116, 32, 33, 32, 115], ⟨4, [], wOut, .var [115] 0⟩⟩]
/-- what is counted -/
def cntS : Nat → Int
  | 0 => 0
  | i + 1 => if (i + 1) % 2 = 0 then cntS i + (i + 1) else cntS i - 1
def plNB (k : Nat) : Bool := decide ((itText (plN k)).length ≤ 800) && ((plN k).all Itm.ok) && (match codeI (shapeI (plN k)) with
  | some C => runsC true C 200 3000 fun s => decide (s.out = [cntS k])
  | none => false)
theorem plN_all : ∀ k, k < 30 → plNB k = true := by decide +kernel
theorem cntS_bound : ∀ k : Nat, -1000 * (k : Int) ≤ cntS k ∧ cntS k ≤ 1000 * (k : Int) ∨ 1000 ≤ k
  | 0 => .inl (by decide)
  | k + 1 => by
    rcases cntS_bound k with h | h
    · by_cases hk : 1000 ≤ k + 1
      · exact .inr hk
      · left
        unfold cntS
        split <;> omega
    · exact .inr (by omega)
end Go.Proofs.YtnhidaamfnjdjaaGreatDoor
