import Derived.Test.YtnhidaamfnjdjaaGreatDoorLawA
namespace Go.Proofs.YtnhidaamfnjdjaaGreatDoor
open Go.RowKit Go.Maps

def upB (ns : List PNode) : Bool := (List.range ns.length).all fun i => (ns.getD i default).kids.all fun k => decide (i < k) && decide (k < ns.length)
def useB (l : List (Int × Nat)) : Bool := l.all fun p => decide (0 ≤ p.1) && decide (p.1 < 2000) && decide (p.2 < 16)
def goodPB (s : PS) : Bool := upB s.nodes && decide (rootOf s < s.nodes.length) && decide (s.nodes.length ≤ 1000) && (s.nodes.all fun n => decide (n.kids.length ≤ 1000)) && ((namedF s).2.all fun n => useB (ownU n))
def goodB (text : Bs) : Bool := match (parseF text (linesF text)).1 with | some s => goodPB s | none => true

theorem goodB_good (text : Bs) (h : goodB text = true) : Good text := by
  intro s hs
  unfold goodB at h
  rw [hs] at h
  simp only [goodPB, Bool.and_eq_true, decide_eq_true_eq] at h
  obtain ⟨⟨⟨⟨h1, h2⟩, h3⟩, h4⟩, h5⟩ := h
  refine ⟨?_, h2, h3, ?_, ?_⟩
  · intro i k hk
    rcases Nat.lt_or_ge i s.nodes.length with hi | hi
    · unfold upB at h1
      have := List.all_eq_true.1 h1 i (List.mem_range.2 hi)
      have := List.all_eq_true.1 this k hk
      simpa using this
    · rw [getD_ge _ _ _ hi] at hk; simp [default] at hk
  · intro i
    rcases Nat.lt_or_ge i s.nodes.length with hi | hi
    · rw [getD_lt _ _ _ hi]
      have := List.all_eq_true.1 h4 _ (List.getElem_mem hi)
      simpa using this
    · rw [getD_ge _ _ _ hi]; simp [default]
  · intro i
    rcases Nat.lt_or_ge i (namedF s).2.length with hi | hi
    · rw [getD_lt _ _ _ hi]
      have := List.all_eq_true.1 h5 _ (List.getElem_mem hi)
      intro p hp
      have := List.all_eq_true.1 this p hp
      simp at this
      exact this
    · rw [getD_ge _ _ _ hi]
      intro p hp
      simp [ownU, headU, asks, default] at hp

def kl (d : Nat) (s : Bs) : Bs := List.replicate (2 * d) 32 ++ s ++ [10]
def optW : List Bs := [[112, 97, 114], [112, 114, 105], [115, 101, 113]]
def optA : List Bs := [[120, 32, 58, 61, 32, 49], [121, 32, 58, 61, 32, 120], [115, 107, 105, 112]]
def optB : List Bs := [[120, 32, 58, 61, 32, 50], [122, 32, 58, 61, 32, 120], [115, 107, 105, 112]]
def optC : List Bs := [[107, 32, 33, 32, 49], [107, 32, 63, 32, 121], [115, 107, 105, 112]]
def optD : List Bs := [[107, 32, 33, 32, 50], [107, 32, 63, 32, 122], [115, 107, 105, 112]]
def headS (h : Nat) : Bs := (((kl 0 [118, 97, 114, 32, 120] ++ kl 1 [118, 97, 114, 32, 121]) ++ kl 2 [118, 97, 114, 32, 122]) ++ kl 3 [99, 104, 97, 110, 32, 107]) ++ kl 4 (optW.getD h [])
def sText (x y u v h : Nat) : Bs := (((((headS h ++ kl 5 [115, 101, 113]) ++ kl 6 (optA.getD x [])) ++ kl 6 (optC.getD u [])) ++ kl 5 [115, 101, 113]) ++ kl 6 (optB.getD y [])) ++ kl 6 (optD.getD v [])
def clashS (x y u v : Nat) : Bool := (x == 0 && y == 0) || (x == 0 && y == 1) || (x == 1 && y == 0) || (u == 0 && v == 0) || (u == 1 && v == 1)
def rightS (x y u v h : Nat) : Int × Int := if clashS x y u v && h != 2 then (5, 5) else (0, 0)

def okS (x y u v h : Nat) : Bool := decide (checkF (sText x y u v h) = rightS x y u v h) && goodB (sText x y u v h)
theorem all243B : ∀ x, x < 3 → ∀ y, y < 3 → ∀ u, u < 3 → ∀ v, v < 3 → ∀ h, h < 3 → okS x y u v h = true := by decide +kernel
theorem all243 (x y u v h : Nat) (hx : x < 3) (hy : y < 3) (hu : u < 3) (hv : v < 3) (hh : h < 3) : checkF (sText x y u v h) = rightS x y u v h ∧ goodB (sText x y u v h) = true := by
  have := all243B x hx y hy u hu v hv h hh
  unfold okS at this
  rw [Bool.and_eq_true, decide_eq_true_eq] at this
  exact this
theorem two1 : checkF [118, 97, 114, 32, 120] = (2, 2) ∧ goodB [118, 97, 114, 32, 120] = true := by decide +kernel
theorem two2 : checkF [118, 97, 114, 32, 120, 10, 32, 32, 105, 110, 32, 63, 32, 120] = (0, 0) ∧ goodB [118, 97, 114, 32, 120, 10, 32, 32, 105, 110, 32, 63, 32, 120] = true := by decide +kernel
theorem sText_len (x y u v h : Nat) (hx : x < 3) (hy : y < 3) (hu : u < 3) (hv : v < 3) (hh : h < 3) : (sText x y u v h).length ≤ 800 := by
  have key : ∀ x, x < 3 → ∀ y, y < 3 → ∀ u, u < 3 → ∀ v, v < 3 → ∀ h, h < 3 → (sText x y u v h).length ≤ 800 := by decide +kernel
  exact key x hx y hy u hu v hv h hh
end Go.Proofs.YtnhidaamfnjdjaaGreatDoor
