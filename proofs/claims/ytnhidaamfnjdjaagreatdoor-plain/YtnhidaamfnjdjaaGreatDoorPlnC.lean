import Derived.Test.YtnhidaamfnjdjaaGreatDoorItmA
import Derived.Test.YtnhidaamfnjdjaaGreatDoorPlnB
/- THE TEXTS OF Plain, plain: their tables, codes and runs. Nothing of the dump. -/
namespace Go.Proofs.YtnhidaamfnjdjaaGreatDoor
open Go.RowKit Go.Maps

theorem peSame_self : ∀ a : PE, peSame a a = true
  | .nil => rfl
  | .num a => by show (a == a) = true; simp
  | .var n a => by show (n == n && a == a) = true; simp
  | .pair o a b => by show (o == o && peSame a a && peSame b b) = true; rw [peSame_self a, peSame_self b]; simp
theorem Itm.ok_of (x : Itm) (h1 : headOk x.b = true) (h2 : readLineF x.b (aboveFor x.p.kind) = (x.p, 0)) (h3 : (10 : UInt8) ∉ x.b) : x.ok = true := by
  unfold Itm.ok
  rw [h1, h2]
  have : rdSame (x.p, 0) x.p = true := by
    unfold rdSame
    dsimp only
    rw [peSame_self]
    simp
  rw [this]
  simp [h3]
def plA (x y : Nat) : List Itm := [
  ⟨0, [115, 101, 113], ⟨7, [], [], .nil⟩⟩,
  ⟨1, opLine 43 (digX x) (digX y), ⟨4, [], wOut, .pair 43 (.num (x : Int)) (.num (y : Int))⟩⟩,
  ⟨1, subLine (digX x) (digX y), ⟨4, [], wOut, .pair 45 (.num (x : Int)) (.num (y : Int))⟩⟩,
  ⟨1, mulLine (digX x) (digX y), ⟨4, [], wOut, .pair 42 (.num (x : Int)) (.num (y : Int))⟩⟩,
  ⟨1, opLine 61 (digX x) (digX y), ⟨4, [], wOut, .pair 61 (.num (x : Int)) (.num (y : Int))⟩⟩,
  ⟨1, opLine 60 (digX x) (digX y), ⟨4, [], wOut, .pair 60 (.num (x : Int)) (.num (y : Int))⟩⟩,
  ⟨1, opLine 62 (digX x) (digX y), ⟨4, [], wOut, .pair 62 (.num (x : Int)) (.num (y : Int))⟩⟩]
def plB (x y : Nat) : List Itm := [
  ⟨0, [115, 101, 113], ⟨7, [], [], .nil⟩⟩,
  ⟨1, opLine 47 (digX x) (digX y), ⟨4, [], wOut, .pair 47 (.num (x : Int)) (.num (y : Int))⟩⟩,
  ⟨1, modLine (digX x) (digX y), ⟨4, [], wOut, .pair 37 (.pair 45 (.num 0) (.num (x : Int))) (.num (y : Int))⟩⟩]
theorem opLine_ok (o : UInt8) (x y : Nat) (hx : x < 10000000) (hy : y < 10000000) (ho : Lib.contains opersB [o] = true) (hs : ∀ r : Bs, nextS (32 :: o :: r) = ⟨4, [o], r⟩) (h10 : o ≠ 10) : (⟨1, opLine o (digX x) (digX y), ⟨4, [], wOut, .pair o (.num (x : Int)) (.num (y : Int))⟩⟩ : Itm).ok = true := by
  refine Itm.ok_of _ rfl (op_read (digX_ok x hx) (digX_ok y hy) o ho hs) ?_
  have a := (digX_ok x hx).no10
  have b := (digX_ok y hy).no10
  show (10 : UInt8) ∉ opLine o (digX x) (digX y)
  unfold opLine
  simp [a, b]
  exact fun e => h10 e.symm
theorem plA_ok (x y : Nat) (hx : x < 10000000) (hy : y < 10000000) : ∀ i ∈ plA x y, i.ok = true := by
  have a := (digX_ok x hx).no10
  have b := (digX_ok y hy).no10
  intro i hi
  unfold plA at hi
  simp only [List.mem_cons, List.not_mem_nil, or_false] at hi
  rcases hi with rfl | rfl | rfl | rfl | rfl | rfl | rfl
  · decide +kernel
  · exact opLine_ok 43 x y hx hy rfl (fun r => rfl) (by decide)
  · refine Itm.ok_of _ rfl (sub_read (digX_ok x hx) (digX_ok y hy)) ?_
    show (10 : UInt8) ∉ subLine (digX x) (digX y)
    unfold subLine
    simp [a, b]
  · refine Itm.ok_of _ rfl (mul_read (digX_ok x hx) (digX_ok y hy)) ?_
    show (10 : UInt8) ∉ mulLine (digX x) (digX y)
    unfold mulLine
    simp [a, b]
  · exact opLine_ok 61 x y hx hy rfl (fun r => rfl) (by decide)
  · exact opLine_ok 60 x y hx hy rfl (fun r => rfl) (by decide)
  · exact opLine_ok 62 x y hx hy rfl (fun r => rfl) (by decide)
theorem plB_ok (x y : Nat) (hx : x < 10000000) (hy : y < 10000000) : ∀ i ∈ plB x y, i.ok = true := by
  have a := (digX_ok x hx).no10
  have b := (digX_ok y hy).no10
  intro i hi
  unfold plB at hi
  simp only [List.mem_cons, List.not_mem_nil, or_false] at hi
  rcases hi with rfl | rfl | rfl
  · decide +kernel
  · exact opLine_ok 47 x y hx hy rfl (fun r => rfl) (by decide)
  · refine Itm.ok_of _ rfl (mod_read (digX_ok x hx) (digX_ok y hy)) ?_
    show (10 : UInt8) ∉ modLine (digX x) (digX y)
    unfold modLine
    simp [a, b]
def shapeI (l : List Itm) : List (Nat × LP) := l.map fun i => (i.d, i.p)
def plCA (x y : Int) : CM := ⟨[(0, 0), (1, x), (1, y), (3, 0), (13, 0), (0, 0), (1, x), (1, y), (4, 0), (13, 0), (0, 0), (1, x), (1, y), (5, 0), (13, 0), (0, 0), (1, x), (1, y), (8, 0), (13, 0), (0, 0), (1, x), (1, y), (9, 0), (13, 0), (0, 0), (1, x), (1, y), (10, 0), (13, 0), (24, 0)], [], 3⟩
def plCB (x y : Int) : CM := ⟨[(0, 0), (1, x), (1, y), (6, 0), (13, 0), (0, 0), (1, 0), (1, x), (4, 0), (1, y), (7, 0), (13, 0), (24, 0)], [], 3⟩
theorem codeA (x y : Nat) : codeI (shapeI (plA x y)) = some (plCA x y) := by kernel_rfl
theorem codeB (x y : Nat) : codeI (shapeI (plB x y)) = some (plCB x y) := by kernel_rfl
/-- what comes of the first text -/
def plOutA (x y : Int) : List Int := [w64 (x + y), w64 (x - y), w64 (x * y), (if x = y then 1 else 0), (if x < y then 1 else 0), (if x > y then 1 else 0)]
def plEnd (at_ : Int) (out : List Int) : MS := ⟨[0, 0, 0], [default, default, default], [], none, [], [], [], 0, 0, out, true, false, [⟨none, false, at_, [], 0, 0⟩]⟩
theorem runA (x y : Int) : runC true (plCA x y).code (plCA x y).br 6 100 0 (newF (plCA x y)) = some (6, plEnd 31 (plOutA x y)) := by kernel_rfl
def plOutB (x y : Int) : List Int := [w64 (x.tdiv y), (w64 (0 - x)).tmod y]
theorem runB (x : Int) (k : Nat) : runC true (plCB x ((k + 1 : Nat) : Int)).code (plCB x ((k + 1 : Nat) : Int)).br 5 100 0 (newF (plCB x ((k + 1 : Nat) : Int))) = some (2, plEnd 13 (plOutB x ((k + 1 : Nat) : Int))) := by kernel_rfl
def plFault : MS := ⟨[0, 0, 0], [default, default, default], [], none, [], [], [], 0, 0, [], false, true, [⟨none, false, 4, [], 0, 0⟩]⟩
theorem runB0 (x : Int) : runC true (plCB x 0).code (plCB x 0).br 5 100 0 (newF (plCB x 0)) = some (1, plFault) := by kernel_rfl
end Go.Proofs.YtnhidaamfnjdjaaGreatDoor
