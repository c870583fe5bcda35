import Derived.Test.YtnhidaamfnjdjaaGreatDoorBlkB
/- THE TEXTS OF bag, plain: each of its lines is read as it should be; each of its shapes is right. By reckoning. -/
namespace Go.Proofs.YtnhidaamfnjdjaaGreatDoor
open Go.RowKit

def peEq : PE → PE → Bool
  | .nil, .nil => true
  | .num a, .num b => a == b
  | .var n d, .var m e => n == m && d == e
  | .pair o a b, .pair p c d => o == p && peEq a c && peEq b d
  | _, _ => false
theorem peEq_eq : ∀ a b : PE, peEq a b = true → a = b
  | .nil, .nil, _ => rfl
  | .num a, .num b, h => by simp [peEq] at h; rw [h]
  | .var n d, .var m e, h => by simp [peEq] at h; rw [h.1, h.2]
  | .pair o a b, .pair p c d, h => by
    simp only [peEq, Bool.and_eq_true, beq_iff_eq] at h
    rw [h.1.1, peEq_eq a c h.1.2, peEq_eq b d h.2]
  | .nil, .num _, h => by simp [peEq] at h
  | .nil, .var _ _, h => by simp [peEq] at h
  | .nil, .pair _ _ _, h => by simp [peEq] at h
  | .num _, .nil, h => by simp [peEq] at h
  | .num _, .var _ _, h => by simp [peEq] at h
  | .num _, .pair _ _ _, h => by simp [peEq] at h
  | .var _ _, .nil, h => by simp [peEq] at h
  | .var _ _, .num _, h => by simp [peEq] at h
  | .var _ _, .pair _ _ _, h => by simp [peEq] at h
  | .pair _ _ _, .nil, h => by simp [peEq] at h
  | .pair _ _ _, .num _, h => by simp [peEq] at h
  | .pair _ _ _, .var _ _, h => by simp [peEq] at h
def rdEq (r : LP × Int) (p : LP) : Bool := (r.1.kind == p.kind && r.1.name == p.name && r.1.chan == p.chan && peEq r.1.expr p.expr) && r.2 == 0
theorem rdEq_eq (r : LP × Int) (p : LP) (h : rdEq r p = true) : r = (p, 0) := by
  simp only [rdEq, Bool.and_eq_true, beq_iff_eq] at h
  obtain ⟨⟨⟨⟨h1, h2⟩, h3⟩, h4⟩, h5⟩ := h
  obtain ⟨⟨a, b, c, d⟩, e⟩ := r
  obtain ⟨a', b', c', d'⟩ := p
  simp only at h1 h2 h3 h4 h5
  rw [h1, h2, h3, peEq_eq _ _ h4, h5]
def okI (x : Item) : Bool :=
  headOk x.b && rdEq (readLineF x.b (aboveFor x.p.kind)) x.p && rdEq (readLineF (x.b ++ [32]) (aboveFor x.p.kind)) x.p &&
    (readLineF (x.b ++ [32, 33, 32, 59]) (aboveFor x.p.kind)).2 == 2 && (readLineF (x.b ++ [32, 33, 32, 59] ++ [32]) (aboveFor x.p.kind)).2 == 2 && !(x.b.contains 10)
theorem okI_ok (x : Item) (h : okI x = true) : x.Ok := by
  simp only [okI, Bool.and_eq_true, beq_iff_eq, Bool.not_eq_true'] at h
  obtain ⟨⟨⟨⟨⟨h1, h2⟩, h3⟩, h4⟩, h5⟩, h6⟩ := h
  refine ⟨h1, ⟨rdEq_eq _ _ h2, rdEq_eq _ _ h3⟩, ⟨h4, h5⟩, ?_⟩
  intro hm
  rw [List.contains_iff_mem.2 hm] at h6
  cases h6

def digN (k : Nat) : Bs := if k < 10 then [UInt8.ofNat (48 + k)] else [UInt8.ofNat (48 + k / 10), UInt8.ofNat (48 + k % 10)]
def lpN (k : Int) : LP := ⟨k, [], [], .nil⟩
def xC : Bs := [99]
def xD : Bs := [100]
def xX : Bs := [120]
def xY : Bs := [121]
def headI : List Item := [
  ⟨0, [99, 104, 97, 110, 32, 99], ⟨16, xC, [], .nil⟩⟩,
  ⟨1, [99, 104, 97, 110, 32, 100], ⟨16, xD, [], .nil⟩⟩,
  ⟨2, [112, 97, 114], lpN 8⟩,
  ⟨3, [115, 101, 113], lpN 7⟩]
def tailI : List Item := [
  ⟨3, [118, 97, 114, 32, 121], ⟨15, xY, [], .nil⟩⟩,
  ⟨4, [119, 104, 105, 108, 101, 32, 49], ⟨10, [], [], .num 1⟩⟩,
  ⟨5, [115, 101, 113], lpN 7⟩,
  ⟨6, [105, 110, 32, 63, 32, 121], ⟨5, xY, wIn, .nil⟩⟩,
  ⟨6, [100, 32, 33, 32, 121], ⟨4, [], xD, .var xY 0⟩⟩,
  ⟨3, [118, 97, 114, 32, 120], ⟨15, xX, [], .nil⟩⟩,
  ⟨4, [119, 104, 105, 108, 101, 32, 49], ⟨10, [], [], .num 1⟩⟩,
  ⟨5, [97, 108, 116], lpN 13⟩,
  ⟨6, [111, 110, 32, 99, 32, 63, 32, 120], ⟨14, xX, xC, .nil⟩⟩,
  ⟨7, [111, 117, 116, 32, 33, 32, 120], ⟨4, [], wOut, .var xX 0⟩⟩,
  ⟨6, [111, 110, 32, 40, 120, 32, 60, 32, 52, 48, 41, 32, 38, 32, 100, 32, 63, 32, 120], ⟨14, xX, xD, .pair 60 (.var xX 0) (.num 40)⟩⟩,
  ⟨7, [111, 117, 116, 32, 33, 32, 48, 32, 45, 32, 120], ⟨4, [], wOut, .pair 45 (.num 0) (.var xX 0)⟩⟩]
def bitI (c k : Nat) : List Item :=
  if c = 0 then [⟨4, [99, 32, 33, 32] ++ digN k, ⟨4, [], xC, .num k⟩⟩]
  else if c = 1 then [⟨4, [119, 97, 105, 116, 32] ++ digN k, ⟨6, [], [], .num k⟩⟩]
  else if c = 2 then [⟨4, [105, 102], lpN 11⟩, ⟨5, ([119, 104, 101, 110, 32] ++ digN k) ++ [32, 62, 32, 50, 53], ⟨12, [], [], .pair 62 (.num k) (.num 25)⟩⟩, ⟨6, [99, 32, 33, 32, 49], ⟨4, [], xC, .num 1⟩⟩,
    ⟨5, [119, 104, 101, 110, 32, 49], ⟨12, [], [], .num 1⟩⟩, ⟨6, [115, 107, 105, 112], lpN 1⟩]
  else [⟨4, [112, 97, 114], lpN 8⟩, ⟨5, [99, 32, 33, 32] ++ digN k, ⟨4, [], xC, .num k⟩⟩, ⟨5, [119, 97, 105, 116, 32, 51], ⟨6, [], [], .num 3⟩⟩]
def bagI (rs : List (Nat × Nat)) : List Item := headI ++ rs.flatMap (fun r => bitI r.1 r.2) ++ tailI

theorem fixed_ok : (headI ++ tailI).all okI = true := by decide +kernel
theorem bits_ok : ∀ c, c < 4 → ∀ k, k < 50 → (bitI c k).all okI = true := by decide +kernel

/-- the shapes -/
def shE (xs : List Item) : List (Nat × LP) := xs.map fun x => (x.d, x.p.er)
def okShape (cs : List Nat) : Bool :=
  match runE startP.er (shE headI ++ cs.flatMap (fun c => shE (bitI c 0)) ++ shE tailI) with
  | some t => t.complete 0 && calmB t
  | none => false
def allS : Nat → List Nat → Bool
  | 0, cs => okShape cs
  | n + 1, cs => okShape cs && allS n (cs ++ [0]) && allS n (cs ++ [1]) && allS n (cs ++ [2]) && allS n (cs ++ [3])
end Go.Proofs.YtnhidaamfnjdjaaGreatDoor
