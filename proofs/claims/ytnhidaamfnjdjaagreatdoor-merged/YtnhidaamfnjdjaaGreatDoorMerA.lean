import Derived.Test.YtnhidaamfnjdjaaGreatDoorLawA
import Derived.Test.YtnhidaamfnjdjaaGreatDoorItmA
import Derived.Test.YtnhidaamfnjdjaaGreatDoorPureM
/- THE TEXTS OF Merged, plain, line by line, and what comes of them. Written by wip/genmera.py. -/
namespace Go.Proofs.YtnhidaamfnjdjaaGreatDoor
open Go.RowKit Go.Maps

def meOne (g : Nat) : Bs := if g % 2 = 1 then [111, 110, 32, 40, 107, 32, 60, 32, 57, 57, 41, 32, 38, 32, 99, 32, 63, 32, 120] else [111, 110, 32, 99, 32, 63, 32, 120]
def meTwo (g : Nat) : Bs := if g / 2 = 1 then [111, 110, 32, 49, 32, 38, 32, 100, 32, 63, 32, 120] else [111, 110, 32, 100, 32, 63, 32, 120]
def meOneP (g : Nat) : LP := if g % 2 = 1 then ⟨14, [120], [99], (.pair 60 (.var [107] 0) (.num 99))⟩ else ⟨14, [120], [99], .nil⟩
def meTwoP (g : Nat) : LP := if g / 2 = 1 then ⟨14, [120], [100], (.num 1)⟩ else ⟨14, [120], [100], .nil⟩
def meItems (p q g : Nat) : List Itm := [
  ⟨0, [99, 104, 97, 110, 32, 99], ⟨16, [99], [], .nil⟩⟩,
  ⟨1, [99, 104, 97, 110, 32, 100], ⟨16, [100], [], .nil⟩⟩,
  ⟨2, [112, 97, 114], ⟨8, [], [], .nil⟩⟩,
  ⟨3, [118, 97, 114, 32, 105], ⟨15, [105], [], .nil⟩⟩,
  ⟨4, [119, 104, 105, 108, 101, 32, 105, 32, 60, 32] ++ digK p, ⟨10, [], [], (.pair 60 (.var [105] 0) (.num p))⟩⟩,
  ⟨5, [115, 101, 113], ⟨7, [], [], .nil⟩⟩,
  ⟨6, [99, 32, 33, 32, 105], ⟨4, [], [99], (.var [105] 0)⟩⟩,
  ⟨6, [105, 32, 58, 61, 32, 105, 32, 43, 32, 49], ⟨3, [105], [], (.pair 43 (.var [105] 0) (.num 1))⟩⟩,
  ⟨3, [118, 97, 114, 32, 105], ⟨15, [105], [], .nil⟩⟩,
  ⟨4, [119, 104, 105, 108, 101, 32, 105, 32, 60, 32] ++ digK q, ⟨10, [], [], (.pair 60 (.var [105] 0) (.num q))⟩⟩,
  ⟨5, [115, 101, 113], ⟨7, [], [], .nil⟩⟩,
  ⟨6, [100, 32, 33, 32, 105, 32, 43, 32, 49, 48, 48], ⟨4, [], [100], (.pair 43 (.var [105] 0) (.num 100))⟩⟩,
  ⟨6, [105, 32, 58, 61, 32, 105, 32, 43, 32, 49], ⟨3, [105], [], (.pair 43 (.var [105] 0) (.num 1))⟩⟩,
  ⟨3, [118, 97, 114, 32, 120], ⟨15, [120], [], .nil⟩⟩,
  ⟨4, [118, 97, 114, 32, 107], ⟨15, [107], [], .nil⟩⟩,
  ⟨5, [119, 104, 105, 108, 101, 32, 107, 32, 60, 32] ++ digK (p + q), ⟨10, [], [], (.pair 60 (.var [107] 0) (.num (p + q : Nat)))⟩⟩,
  ⟨6, [115, 101, 113], ⟨7, [], [], .nil⟩⟩,
  ⟨7, [97, 108, 116], ⟨13, [], [], .nil⟩⟩,
  ⟨8, meOne g, meOneP g⟩,
  ⟨9, [111, 117, 116, 32, 33, 32, 120], ⟨4, [], [111, 117, 116], (.var [120] 0)⟩⟩,
  ⟨8, meTwo g, meTwoP g⟩,
  ⟨9, [111, 117, 116, 32, 33, 32, 120], ⟨4, [], [111, 117, 116], (.var [120] 0)⟩⟩,
  ⟨7, [107, 32, 58, 61, 32, 107, 32, 43, 32, 49], ⟨3, [107], [], (.pair 43 (.var [107] 0) (.num 1))⟩⟩]
/-- how many of each have come, in order -/
def meCount : List Int → Int → Int → Option (Int × Int)
  | [], a, b => some (a, b)
  | x :: l, a, b => if x = a then meCount l (a + 1) b else if x = b + 100 then meCount l a (b + 1) else none
/-- the table of a text of lines, its names resolved, and its code; none: it is not right -/
def codeI (l : List (Nat × LP)) : Option CM :=
  match runI startP 0 l with
  | some s =>
    let T := namedF s
    if s.complete 0 && (T.1.line == 0) && ((shareF T.2 T.2.length 0 (rootOf s)).2 == 0) then some (makeF T.2 (rootOf s)) else none
  | none => none
/-- code runs to its end by so many steps; ns: without anybody asleep; what comes of it keeps to f -/
def runsC (ns : Bool) (C : CM) (steps : Int) (fuel : Nat) (f : MS → Bool) : Bool :=
  match runC ns C.code C.br steps fuel 0 (newF C) with
  | some r => (r.2.stands == 2) && okLens r.2 && Nat.blt 1 r.2.chans.length && f r.2
  | none => false
def meShape (p q g : Nat) : List (Nat × LP) := (meItems p q g).map fun x => (x.d, x.p)
def meFix : List Itm := [
  ⟨0, [99, 104, 97, 110, 32, 99], ⟨16, [99], [], .nil⟩⟩,
  ⟨1, [99, 104, 97, 110, 32, 100], ⟨16, [100], [], .nil⟩⟩,
  ⟨2, [112, 97, 114], ⟨8, [], [], .nil⟩⟩,
  ⟨3, [118, 97, 114, 32, 105], ⟨15, [105], [], .nil⟩⟩,
  ⟨5, [115, 101, 113], ⟨7, [], [], .nil⟩⟩,
  ⟨6, [99, 32, 33, 32, 105], ⟨4, [], [99], (.var [105] 0)⟩⟩,
  ⟨6, [105, 32, 58, 61, 32, 105, 32, 43, 32, 49], ⟨3, [105], [], (.pair 43 (.var [105] 0) (.num 1))⟩⟩,
  ⟨3, [118, 97, 114, 32, 105], ⟨15, [105], [], .nil⟩⟩,
  ⟨5, [115, 101, 113], ⟨7, [], [], .nil⟩⟩,
  ⟨6, [100, 32, 33, 32, 105, 32, 43, 32, 49, 48, 48], ⟨4, [], [100], (.pair 43 (.var [105] 0) (.num 100))⟩⟩,
  ⟨6, [105, 32, 58, 61, 32, 105, 32, 43, 32, 49], ⟨3, [105], [], (.pair 43 (.var [105] 0) (.num 1))⟩⟩,
  ⟨3, [118, 97, 114, 32, 120], ⟨15, [120], [], .nil⟩⟩,
  ⟨4, [118, 97, 114, 32, 107], ⟨15, [107], [], .nil⟩⟩,
  ⟨6, [115, 101, 113], ⟨7, [], [], .nil⟩⟩,
  ⟨7, [97, 108, 116], ⟨13, [], [], .nil⟩⟩,
  ⟨9, [111, 117, 116, 32, 33, 32, 120], ⟨4, [], [111, 117, 116], (.var [120] 0)⟩⟩,
  ⟨9, [111, 117, 116, 32, 33, 32, 120], ⟨4, [], [111, 117, 116], (.var [120] 0)⟩⟩,
  ⟨7, [107, 32, 58, 61, 32, 107, 32, 43, 32, 49], ⟨3, [107], [], (.pair 43 (.var [107] 0) (.num 1))⟩⟩]
def meW1 (p : Nat) : Itm := ⟨4, [119, 104, 105, 108, 101, 32, 105, 32, 60, 32] ++ digK p, ⟨10, [], [], (.pair 60 (.var [105] 0) (.num p))⟩⟩
def meW2 (n : Nat) : Itm := ⟨5, [119, 104, 105, 108, 101, 32, 107, 32, 60, 32] ++ digK n, ⟨10, [], [], (.pair 60 (.var [107] 0) (.num n))⟩⟩
def meB (p q g : Nat) : Bool := decide ((itText (meItems p q g)).length ≤ 800) && (match codeI (meShape p q g) with
  | some C => runsC true C 400 2000 fun s => meCount s.out 0 0 == some ((p : Int), (q : Int)) && Nat.blt s.out.length 1000
  | none => false)
end Go.Proofs.YtnhidaamfnjdjaaGreatDoor
