import Derived.Test.YtnhidaamfnjdjaaGreatDoorGoodA
import Derived.Test.YtnhidaamfnjdjaaGreatDoorLawA
import Derived.Test.YtnhidaamfnjdjaaGreatDoorPureM
/- TEXTS MADE OF LINES THAT ARE KNOWN: their tables without reading bytes. Nothing of the dump. -/
namespace Go.Proofs.YtnhidaamfnjdjaaGreatDoor
open Go.RowKit Go.Maps

structure Itm where
  d : Nat
  b : Bs
  p : LP
def peSame : PE → PE → Bool
  | .nil, .nil => true
  | .num a, .num b => a == b
  | .var n a, .var m b => n == m && a == b
  | .pair o a b, .pair q c d => o == q && peSame a c && peSame b d
  | _, _ => false
theorem peSame_eq : ∀ a b : PE, peSame a b = true → a = b
  | .nil, .nil, _ => rfl
  | .num a, .num b, h => by
    have h : (a == b) = true := h
    rw [beq_iff_eq] at h; rw [h]
  | .var n a, .var m b, h => by
    have h : (n == m && a == b) = true := h
    rw [Bool.and_eq_true, beq_iff_eq, beq_iff_eq] at h; rw [h.1, h.2]
  | .pair o a b, .pair q c d, h => by
    have h : (o == q && peSame a c && peSame b d) = true := h
    rw [Bool.and_eq_true, Bool.and_eq_true, beq_iff_eq] at h
    rw [h.1.1, peSame_eq a c h.1.2, peSame_eq b d h.2]
  | .nil, .num _, h => by cases h
  | .nil, .var _ _, h => by cases h
  | .nil, .pair _ _ _, h => by cases h
  | .num _, .nil, h => by cases h
  | .num _, .var _ _, h => by cases h
  | .num _, .pair _ _ _, h => by cases h
  | .var _ _, .nil, h => by cases h
  | .var _ _, .num _, h => by cases h
  | .var _ _, .pair _ _ _, h => by cases h
  | .pair _ _ _, .nil, h => by cases h
  | .pair _ _ _, .num _, h => by cases h
  | .pair _ _ _, .var _ _, h => by cases h
def rdSame (r : LP × Int) (p : LP) : Bool := (r.1.kind == p.kind && r.1.name == p.name && r.1.chan == p.chan && peSame r.1.expr p.expr) && r.2 == 0
theorem rdSame_eq (r : LP × Int) (p : LP) (h : rdSame r p = true) : r = (p, 0) := by
  obtain ⟨⟨a, b, c, d⟩, e⟩ := r
  obtain ⟨a', b', c', d'⟩ := p
  unfold rdSame at h
  simp only [Bool.and_eq_true, beq_iff_eq] at h
  obtain ⟨⟨⟨⟨h1, h2⟩, h3⟩, h4⟩, h5⟩ := h
  rw [h1, h2, h3, peSame_eq _ _ h4, h5]
def Itm.ok (x : Itm) : Bool := headOk x.b && rdSame (readLineF x.b (aboveFor x.p.kind)) x.p && !(x.b.contains 10)
def Itm.line (x : Itm) : Bs := List.replicate (2 * x.d) 32 ++ x.b
def itText (xs : List Itm) : Bs := flatL (xs.map Itm.line)
def runI : PS → Nat → List (Nat × LP) → Option PS
  | s, _, [] => some s
  | s, n, (d, p) :: r => if mayB s d p.kind then runI (s.put d p ((n : Int) + 1)) (n + 1) r else none
theorem goL_items : ∀ (xs : List Itm) (s : PS) (n : Nat) (t : PS), (∀ x ∈ xs, x.ok = true) → runI s n (xs.map fun x => (x.d, x.p)) = some t → goL s n (xs.map Itm.line ++ [[]]) = .ok t
  | [], s, n, t, _, h => by
    have h : some s = some t := h
    injection h with h
    subst h
    have := goL_blank s n 0 []
    exact this
  | x :: xs, s, n, t, hx, h => by
    have h : (if mayB s x.d x.p.kind then runI (s.put x.d x.p ((n : Int) + 1)) (n + 1) (xs.map fun x => (x.d, x.p)) else none) = some t := h
    by_cases hm : mayB s x.d x.p.kind = true
    · rw [if_pos hm] at h
      have ho := hx x (by simp)
      unfold Itm.ok at ho
      rw [Bool.and_eq_true, Bool.and_eq_true] at ho
      have e := goL_real s n x.d x.b x.p (xs.map Itm.line ++ [[]]) ho.1.1 hm (rdSame_eq _ _ ho.1.2)
      show goL s n ((List.replicate (2 * x.d) 32 ++ x.b) :: (xs.map Itm.line ++ [[]])) = _
      rw [e]
      exact goL_items xs _ _ t (fun y hy => hx y (by simp [hy])) h
    · rw [if_neg hm] at h
      cases h
theorem parse_items (xs : List Itm) (hx : ∀ x ∈ xs, x.ok = true) (t : PS) (hr : runI startP 0 (xs.map fun x => (x.d, x.p)) = some t) (hc : t.complete 0 = true) (hlen : (itText xs).length ≤ 800) : parseF (itText xs) (linesF (itText xs)) = (some t, 0, 0) := by
  have hl : linesF (itText xs) = xs.map Itm.line ++ [[]] := by
    refine linesF_flat _ (fun l hl => ?_)
    obtain ⟨x, hx1, rfl⟩ := List.mem_map.1 hl
    have ho := hx x hx1
    unfold Itm.ok at ho
    rw [Bool.and_eq_true] at ho
    intro h10
    unfold Itm.line at h10
    rcases List.mem_append.1 h10 with h | h
    · have := List.eq_of_mem_replicate h
      cases this
    · have := ho.2
      rw [Bool.not_eq_true', List.contains_eq_mem, decide_eq_false_iff_not] at this
      exact this h
  rw [parseF_go _ hlen, hl, goL_items xs startP 0 t hx hr]
  dsimp only
  rw [if_pos hc]
end Go.Proofs.YtnhidaamfnjdjaaGreatDoor
/- THE TEXTS OF Merged, plain, line by line, and what comes of them. Written by wip/genmera.py. -/
namespace Go.Proofs.YtnhidaamfnjdjaaGreatDoor
open Go.RowKit Go.Maps

def meOne (g : Nat) : Bs := if g % 2 = 1 then [111, 110, 32, 40, 107, 32, 60, 32, 57, 57, 41, 32, 38, 32, 99, 32, 63, 32, 120] else [111, 110, 32, 99, 32, 63, 32, 120]
def meTwo (g : Nat) : Bs := if g / 2 = 1 then [111, 110, 32, 49, 32, 38, 32, 100, 32, 63, 32, 120] else [111, 110, 32, 100, 32, 63, 32, 120]
def meOneP (g : Nat) : LP := if g % 2 = 1 then ⟨14, [120], [99], (.pair 60 (.var [107] 0) (.num 99))⟩ else ⟨14, [120], [99], .nil⟩
def meTwoP (g : Nat) : LP := if g / 2 = 1 then ⟨14, [120], [100], (.num 1)⟩ else ⟨14, [120], [100], .nil⟩
def meItems (p q g : Nat) : List Itm := [
  ⟨0, [99, 104, 97, 110, 32, 99], ⟨16, [99], [], .nil⟩⟩,
  ⟨1, [99, 104, 97, 110, 32, 100], ⟨16, [100], [], .nil⟩⟩,
  ⟨2, [112, 97, 114], ⟨8, [], [], .nil⟩⟩,
  ⟨3, [118, 97, 114, 32, 105], ⟨15, [105], [], .nil⟩⟩,
  ⟨4, [119, 104, 105, 108, 101, 32, 105, 32, 60, 32] ++ digK p, ⟨10, [], [], (.pair 60 (.var [105] 0) (.num p))⟩⟩,
  ⟨5, [115, 101, 113], ⟨7, [], [], .nil⟩⟩,
  ⟨6, [99, 32, 33, 32, 105], ⟨4, [], [99], (.var [105] 0)⟩⟩,
  ⟨6, [105, 32, 58, 61, 32, 105, 32, 43, 32, 49], ⟨3, [105], [], (.pair 43 (.var [105] 0) (.num 1))⟩⟩,
  ⟨3, [118, 97, 114, 32, 105], ⟨15, [105], [], .nil⟩⟩,
  ⟨4, [119, 104, 105, 108, 101, 32, 105, 32, 60, 32] ++ digK q, ⟨10, [], [], (.pair 60 (.var [105] 0) (.num q))⟩⟩,
  ⟨5, [115, 101, 113], ⟨7, [], [], .nil⟩⟩,
  ⟨6, [100, 32, 33, 32, 105, 32, 43, 32, 49, 48, 48], ⟨4, [], [100], (.pair 43 (.var [105] 0) (.num 100))⟩⟩,
  ⟨6, [105, 32, 58, 61, 32, 105, 32, 43, 32, 49], ⟨3, [105], [], (.pair 43 (.var [105] 0) (.num 1))⟩⟩,
  ⟨3, [118, 97, 114, 32, 120], ⟨15, [120], [], .nil⟩⟩,
  ⟨4, [118, 97, 114, 32, 107], ⟨15, [107], [], .nil⟩⟩,
  ⟨5, [119, 104, 105, 108, 101, 32, 107, 32, 60, 32] ++ digK (p + q), ⟨10, [], [], (.pair 60 (.var [107] 0) (.num (p + q : Nat)))⟩⟩,
  ⟨6, [115, 101, 113], ⟨7, [], [], .nil⟩⟩,
  ⟨7, [97, 108, 116], ⟨13, [], [], .nil⟩⟩,
  ⟨8, meOne g, meOneP g⟩,
  ⟨9, [111, 117, 116, 32, 33, 32, 120], ⟨4, [], [111, 117, 116], (.var [120] 0)⟩⟩,
  ⟨8, meTwo g, meTwoP g⟩,
  ⟨9, [111, 117, 116, 32, 33, 32, 120], ⟨4, [], [111, 117, 116], (.var [120] 0)⟩⟩,
  ⟨7, [107, 32, 58, 61, 32, 107, 32, 43, 32, 49], ⟨3, [107], [], (.pair 43 (.var [107] 0) (.num 1))⟩⟩]
/-- how many of each have come, in order -/
def meCount : List Int → Int → Int → Option (Int × Int)
  | [], a, b => some (a, b)
  | x :: l, a, b => if x = a then meCount l (a + 1) b else if x = b + 100 then meCount l a (b + 1) else none
/-- the table of a text of lines, its names resolved, and its code; none: it is not right -/
def codeI (l : List (Nat × LP)) : Option CM :=
  match runI startP 0 l with
  | some s =>
    let T := namedF s
    if s.complete 0 && (T.1.line == 0) && ((shareF T.2 T.2.length 0 (rootOf s)).2 == 0) then some (makeF T.2 (rootOf s)) else none
  | none => none
/-- code runs to its end by so many steps; ns: without anybody asleep; what comes of it keeps to f -/
def runsC (ns : Bool) (C : CM) (steps : Int) (fuel : Nat) (f : MS → Bool) : Bool :=
  match runC ns C.code C.br steps fuel 0 (newF C) with
  | some r => (r.2.stands == 2) && okLens r.2 && Nat.blt 1 r.2.chans.length && f r.2
  | none => false
def meShape (p q g : Nat) : List (Nat × LP) := (meItems p q g).map fun x => (x.d, x.p)
def meFix : List Itm := [
  ⟨0, [99, 104, 97, 110, 32, 99], ⟨16, [99], [], .nil⟩⟩,
  ⟨1, [99, 104, 97, 110, 32, 100], ⟨16, [100], [], .nil⟩⟩,
  ⟨2, [112, 97, 114], ⟨8, [], [], .nil⟩⟩,
  ⟨3, [118, 97, 114, 32, 105], ⟨15, [105], [], .nil⟩⟩,
  ⟨5, [115, 101, 113], ⟨7, [], [], .nil⟩⟩,
  ⟨6, [99, 32, 33, 32, 105], ⟨4, [], [99], (.var [105] 0)⟩⟩,
  ⟨6, [105, 32, 58, 61, 32, 105, 32, 43, 32, 49], ⟨3, [105], [], (.pair 43 (.var [105] 0) (.num 1))⟩⟩,
  ⟨3, [118, 97, 114, 32, 105], ⟨15, [105], [], .nil⟩⟩,
  ⟨5, [115, 101, 113], ⟨7, [], [], .nil⟩⟩,
  ⟨6, [100, 32, 33, 32, 105, 32, 43, 32, 49, 48, 48], ⟨4, [], [100], (.pair 43 (.var [105] 0) (.num 100))⟩⟩,
  ⟨6, [105, 32, 58, 61, 32, 105, 32, 43, 32, 49], ⟨3, [105], [], (.pair 43 (.var [105] 0) (.num 1))⟩⟩,
  ⟨3, [118, 97, 114, 32, 120], ⟨15, [120], [], .nil⟩⟩,
  ⟨4, [118, 97, 114, 32, 107], ⟨15, [107], [], .nil⟩⟩,
  ⟨6, [115, 101, 113], ⟨7, [], [], .nil⟩⟩,
  ⟨7, [97, 108, 116], ⟨13, [], [], .nil⟩⟩,
  ⟨9, [111, 117, 116, 32, 33, 32, 120], ⟨4, [], [111, 117, 116], (.var [120] 0)⟩⟩,
  ⟨9, [111, 117, 116, 32, 33, 32, 120], ⟨4, [], [111, 117, 116], (.var [120] 0)⟩⟩,
  ⟨7, [107, 32, 58, 61, 32, 107, 32, 43, 32, 49], ⟨3, [107], [], (.pair 43 (.var [107] 0) (.num 1))⟩⟩]
def meW1 (p : Nat) : Itm := ⟨4, [119, 104, 105, 108, 101, 32, 105, 32, 60, 32] ++ digK p, ⟨10, [], [], (.pair 60 (.var [105] 0) (.num p))⟩⟩
def meW2 (n : Nat) : Itm := ⟨5, [119, 104, 105, 108, 101, 32, 107, 32, 60, 32] ++ digK n, ⟨10, [], [], (.pair 60 (.var [107] 0) (.num n))⟩⟩
def meB (p q g : Nat) : Bool := decide ((itText (meItems p q g)).length ≤ 800) && (match codeI (meShape p q g) with
  | some C => runsC true C 400 2000 fun s => meCount s.out 0 0 == some ((p : Int), (q : Int)) && Nat.blt s.out.length 1000
  | none => false)
end Go.Proofs.YtnhidaamfnjdjaaGreatDoor
/- Texts made of known lines: their tables, codes and runs; lines put together. -/
namespace Go.Proofs.YtnhidaamfnjdjaaGreatDoor
open Go.RowKit Go.Maps

theorem code_out {l : List (Nat × LP)} {C : CM} (h : codeI l = some C) : ∃ s, runI startP 0 l = some s ∧ s.complete 0 = true ∧ (namedF s).1.line = 0 ∧ (shareF (namedF s).2 (namedF s).2.length 0 (rootOf s)).2 = 0 ∧ C = makeF (namedF s).2 (rootOf s) := by
  unfold codeI at h
  cases hr : runI startP 0 l with
  | none => rw [hr] at h; cases h
  | some s =>
    rw [hr] at h
    dsimp only at h
    split at h
    · rename_i hc
      rw [Bool.and_eq_true, Bool.and_eq_true, beq_iff_eq, beq_iff_eq] at hc
      injection h with h
      exact ⟨s, rfl, hc.1.1, hc.1.2, hc.2, h.symm⟩
    · cases h
theorem check_of {text : Bs} {s : PS} (hp : parseF text (linesF text) = (some s, 0, 0)) (h1 : (namedF s).1.line = 0) (h2 : (shareF (namedF s).2 (namedF s).2.length 0 (rootOf s)).2 = 0) : checkF text = (0, 0) := by
  unfold checkF
  rw [hp]
  dsimp only
  rw [if_neg (by rw [h1]; decide), if_neg (by rw [h2]; decide)]
theorem runsC_out {ns : Bool} {C : CM} {steps : Int} {fuel : Nat} {f : MS → Bool} (h : runsC ns C steps fuel f = true) : ∃ r xr, runC ns C.code C.br steps fuel 0 (newF C) = some r ∧ r.2.stands = 2 ∧ okLens r.2 = true ∧ r.2.chans[1]? = some xr ∧ f r.2 = true := by
  unfold runsC at h
  cases hr : runC ns C.code C.br steps fuel 0 (newF C) with
  | none => rw [hr] at h; cases h
  | some r =>
    rw [hr] at h
    dsimp only at h
    rw [Bool.and_eq_true, Bool.and_eq_true, Bool.and_eq_true, beq_iff_eq, Nat.blt_eq] at h
    exact ⟨r, r.2.chans[1]'h.1.2, rfl, h.1.1.1, h.1.1.2, List.getElem?_eq_getElem h.1.2, h.2⟩
/-- what Merged asks of a text -/
theorem cat_at {A : ByteArray} {T : Bs} (h : A = ⟨T.toArray⟩) (d : Nat) (s : Bs) : A ++ lnS d s = ⟨(T ++ kL d s).toArray⟩ := by rw [h]; unfold lnS; exact ba_append _ _
theorem cat_size {A : ByteArray} {d : Nat} {s : Bs} {n k : Nat} (h : A.size ≤ n) (hk : (lnS d s).size ≤ k) : (A ++ lnS d s).size ≤ n + k := by rw [ByteArray.size_append]; omega
end Go.Proofs.YtnhidaamfnjdjaaGreatDoor
/- THE TEXTS OF Timed, plain, line by line, and what comes of them. Written by wip/gentima.py. -/
namespace Go.Proofs.YtnhidaamfnjdjaaGreatDoor
open Go.RowKit Go.Maps

def tiItems (x y z : Nat) : List Itm := [
  ⟨0, [99, 104, 97, 110, 32, 97], ⟨16, [97], [], .nil⟩⟩,
  ⟨1, [99, 104, 97, 110, 32, 98], ⟨16, [98], [], .nil⟩⟩,
  ⟨2, [99, 104, 97, 110, 32, 99], ⟨16, [99], [], .nil⟩⟩,
  ⟨3, [112, 97, 114], ⟨8, [], [], .nil⟩⟩,
  ⟨4, [115, 101, 113], ⟨7, [], [], .nil⟩⟩,
  ⟨5, [119, 97, 105, 116, 32] ++ digK (x + 1), ⟨6, [], [], (.num (x + 1 : Nat))⟩⟩,
  ⟨5, [97, 32, 33, 32, 48], ⟨4, [], [97], (.num 0)⟩⟩,
  ⟨4, [115, 101, 113], ⟨7, [], [], .nil⟩⟩,
  ⟨5, [119, 97, 105, 116, 32] ++ digK (y + 1), ⟨6, [], [], (.num (y + 1 : Nat))⟩⟩,
  ⟨5, [98, 32, 33, 32, 49], ⟨4, [], [98], (.num 1)⟩⟩,
  ⟨4, [115, 101, 113], ⟨7, [], [], .nil⟩⟩,
  ⟨5, [119, 97, 105, 116, 32] ++ digK (z + 1), ⟨6, [], [], (.num (z + 1 : Nat))⟩⟩,
  ⟨5, [99, 32, 33, 32, 50], ⟨4, [], [99], (.num 2)⟩⟩,
  ⟨4, [118, 97, 114, 32, 120], ⟨15, [120], [], .nil⟩⟩,
  ⟨5, [118, 97, 114, 32, 110], ⟨15, [110], [], .nil⟩⟩,
  ⟨6, [119, 104, 105, 108, 101, 32, 110, 32, 60, 32, 51], ⟨10, [], [], (.pair 60 (.var [110] 0) (.num 3))⟩⟩,
  ⟨7, [97, 108, 116], ⟨13, [], [], .nil⟩⟩,
  ⟨8, [111, 110, 32, 97, 32, 63, 32, 120], ⟨14, [120], [97], .nil⟩⟩,
  ⟨9, [112, 97, 114], ⟨8, [], [], .nil⟩⟩,
  ⟨10, [110, 32, 58, 61, 32, 110, 32, 43, 32, 49], ⟨3, [110], [], (.pair 43 (.var [110] 0) (.num 1))⟩⟩,
  ⟨10, [111, 117, 116, 32, 33, 32, 120], ⟨4, [], [111, 117, 116], (.var [120] 0)⟩⟩,
  ⟨8, [111, 110, 32, 98, 32, 63, 32, 120], ⟨14, [120], [98], .nil⟩⟩,
  ⟨9, [112, 97, 114], ⟨8, [], [], .nil⟩⟩,
  ⟨10, [110, 32, 58, 61, 32, 110, 32, 43, 32, 49], ⟨3, [110], [], (.pair 43 (.var [110] 0) (.num 1))⟩⟩,
  ⟨10, [111, 117, 116, 32, 33, 32, 120], ⟨4, [], [111, 117, 116], (.var [120] 0)⟩⟩,
  ⟨8, [111, 110, 32, 99, 32, 63, 32, 120], ⟨14, [120], [99], .nil⟩⟩,
  ⟨9, [112, 97, 114], ⟨8, [], [], .nil⟩⟩,
  ⟨10, [110, 32, 58, 61, 32, 110, 32, 43, 32, 49], ⟨3, [110], [], (.pair 43 (.var [110] 0) (.num 1))⟩⟩,
  ⟨10, [111, 117, 116, 32, 33, 32, 120], ⟨4, [], [111, 117, 116], (.var [120] 0)⟩⟩]
/-- who came later slept longer, or as long and stands later -/
def tiPair (w : List Nat) (a b : Int) : Bool := Nat.blt (w.getD a.toNat 0) (w.getD b.toNat 0) || ((w.getD a.toNat 0 == w.getD b.toNat 0) && decide (a < b))
def tiIn (a : Int) : Bool := decide (0 ≤ a) && decide (a ≤ 2)
def tiOk (w : List Nat) : List Int → Bool
  | [a, b, c] => tiIn a && tiIn b && tiIn c && tiPair w a b && tiPair w b c
  | _ => false
def tiMax (x y z : Nat) : Nat := max (max x y) z + 1
def tiShape (x y z : Nat) : List (Nat × LP) := (tiItems x y z).map fun i => (i.d, i.p)
def tiB (x y z : Nat) : Bool := decide ((itText (tiItems x y z)).length ≤ 800) && (match codeI (tiShape x y z) with
  | some C => runsC false C 200 1000 fun s => tiOk [x, y, z] s.out && (s.time == (tiMax x y z : Int))
  | none => false)
end Go.Proofs.YtnhidaamfnjdjaaGreatDoor
