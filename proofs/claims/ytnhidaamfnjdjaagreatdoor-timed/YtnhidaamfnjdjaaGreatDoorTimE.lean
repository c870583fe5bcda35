import Derived.Test.YtnhidaamfnjdjaaGreatDoorTimC
import Derived.Test.YtnhidaamfnjdjaaGreatDoorMadH
import Derived.Test.YtnhidaamfnjdjaaGreatDoorMaeH
import Derived.Deep.QuietTactic
import Derived.BigQuiet
/- TIMED: the law's text, and what it leaves in memory. -/
namespace Go.Proofs.YtnhidaamfnjdjaaGreatDoor
open Go.RowKit Go.Maps

def nmK (k : Nat) : Bs := [UInt8.ofNat (97 + k)]
def tiPut (k : Nat) : Bs := nmK k ++ [32, 33, 32] ++ digK k
def tiOn (k : Nat) : Bs := [111, 110, 32] ++ nmK k ++ [32, 63, 32, 120]
def tiA (x y z : Nat) : Nat → Bs
  | 0 => kL 0 [99, 104, 97, 110, 32, 97] ++ kL 1 [99, 104, 97, 110, 32, 98] ++ kL 2 [99, 104, 97, 110, 32, 99] ++ kL 3 [112, 97, 114]
  | k + 1 => tiA x y z k ++ kL 4 [115, 101, 113] ++ kL 5 ([119, 97, 105, 116, 32] ++ digK ([x, y, z].getD k 0 + 1)) ++ kL 5 (tiPut k)
def tiC (x y z : Nat) : Nat → Bs
  | 0 => tiA x y z 3 ++ kL 4 [118, 97, 114, 32, 120] ++ kL 5 [118, 97, 114, 32, 110] ++ kL 6 [119, 104, 105, 108, 101, 32, 110, 32, 60, 32, 51] ++ kL 7 [97, 108, 116]
  | k + 1 => tiC x y z k ++ kL 8 (tiOn k) ++ kL 9 [112, 97, 114] ++ kL 10 [110, 32, 58, 61, 32, 110, 32, 43, 32, 49] ++ kL 10 [111, 117, 116, 32, 33, 32, 120]
theorem tiC_text (x y z : Nat) : tiC x y z 3 = itText (tiItems x y z) := by
  simp only [tiC, tiA, itText, tiItems, flatL, kL, Itm.line, List.map_cons, List.map_nil, List.flatMap_cons, List.flatMap_nil, List.append_assoc, List.append_nil]
  rfl
theorem kL_len (d : Nat) (s : Bs) : (kL d s).length = 2 * d + s.length + 1 := by simp [kL]; omega
theorem tiA_len (x y z : Nat) : ∀ k, (tiA x y z k).length ≤ 60 + 60 * k
  | 0 => by simp only [tiA, List.length_append, kL_len, List.length_cons, List.length_nil]; decide
  | k + 1 => by
    have := tiA_len x y z k
    have := digK_len ([x, y, z].getD k 0 + 1)
    have := digK_len k
    simp only [tiA, List.length_append, kL_len, tiPut, nmK, List.length_cons, List.length_nil]
    omega
theorem tiC_len (x y z : Nat) : ∀ k, (tiC x y z k).length ≤ 400 + 120 * k
  | 0 => by
    have := tiA_len x y z 3
    simp only [tiC, List.length_append, kL_len, List.length_cons, List.length_nil]
    omega
  | k + 1 => by
    have := tiC_len x y z k
    simp only [tiC, List.length_append, kL_len, tiOn, nmK, List.length_cons, List.length_nil]
    omega
structure TiW (w wr : World) (x y z : Nat) : Prop where
  gr : w.grownBy wr none
  ints : ∀ k, k < 3 → wr.cell? ⟨w.heap.size, k, none⟩ = some (.int .i64 ([x, y, z].getD k 0 : Nat))
  strs : ∀ k, k < 3 → wr.cell? ⟨w.heap.size + 1, k, none⟩ = some (.string ⟨(nmK k).toArray⟩)
theorem three {P : Nat → Prop} (h0 : P 0) (h1 : P 1) (h2 : P 2) : ∀ k, k < 3 → P k := by
  intro k hk
  have c : k = 0 ∨ k = 1 ∨ k = 2 := by omega
  rcases c with rfl | rfl | rfl
  · exact h0
  · exact h1
  · exact h2
theorem TiW.new (w : World) (x y z : Nat) : TiW w ((w.alloc (.cells #[.int .i64 x, .int .i64 y, .int .i64 z] 3)).alloc (.cells #[.string ⟨#[97]⟩, .string ⟨#[98]⟩, .string ⟨#[99]⟩] 9)) x y z := by
  have a1 := at_alloc (at_new w (.cells #[.int .i64 x, .int .i64 y, .int .i64 z] 3)) (.cells #[.string ⟨#[97]⟩, .string ⟨#[98]⟩, .string ⟨#[99]⟩] 9)
  have a2 := at_new (w.alloc (.cells #[.int .i64 x, .int .i64 y, .int .i64 z] 3)) (.cells #[.string ⟨#[97]⟩, .string ⟨#[98]⟩, .string ⟨#[99]⟩] 9)
  simp only [World.size_alloc] at a2
  refine ⟨(World.grownBy_alloc w _ none).andThen (World.grownBy_alloc _ _ none) (fun j hj => by cases hj), ?_, ?_⟩
  · exact three (by rw [cell_at a1 0]; rfl) (by rw [cell_at a1 1]; rfl) (by rw [cell_at a1 2]; rfl)
  · exact three (by rw [cell_at a2 0]; rfl) (by rw [cell_at a2 1]; rfl) (by rw [cell_at a2 2]; rfl)
theorem TiW.drewN {w wr : World} {x y z : Nat} (h : TiW w wr x y z) (n : Nat) : TiW w (wr.drewN n) x y z := ⟨⟨h.gr.os, h.gr.tape, h.gr.output, h.gr.size, h.gr.block⟩, h.ints, h.strs⟩
/-- what is asked of the numbers that came -/
theorem ti_out {x y z : Nat} {l : List Int} (h : tiOk [x, y, z] l = true) : l.length = 3 ∧ (∀ k, k < 3 → 0 ≤ l.getD k 0 ∧ l.getD k 0 ≤ 2) ∧ ∀ k, k < 2 → [x, y, z].getD (l.getD k 0).toNat 0 < [x, y, z].getD (l.getD (k + 1) 0).toNat 0 ∨ ([x, y, z].getD (l.getD k 0).toNat 0 = [x, y, z].getD (l.getD (k + 1) 0).toNat 0 ∧ l.getD k 0 < l.getD (k + 1) 0) := by
  match l, h with
  | [a, b, c], h =>
    have h : (tiIn a && tiIn b && tiIn c && tiPair [x, y, z] a b && tiPair [x, y, z] b c) = true := h
    simp only [Bool.and_eq_true] at h
    obtain ⟨⟨⟨⟨ha, hb⟩, hc⟩, hab⟩, hbc⟩ := h
    have pin : ∀ u, tiIn u = true → 0 ≤ u ∧ u ≤ 2 := fun u hu => by
      unfold tiIn at hu
      rw [Bool.and_eq_true, decide_eq_true_eq, decide_eq_true_eq] at hu
      exact hu
    have ppr : ∀ u v, tiPair [x, y, z] u v = true → [x, y, z].getD u.toNat 0 < [x, y, z].getD v.toNat 0 ∨ ([x, y, z].getD u.toNat 0 = [x, y, z].getD v.toNat 0 ∧ u < v) := fun u v huv => by
      unfold tiPair at huv
      rw [Bool.or_eq_true, Bool.and_eq_true, Nat.blt_eq, beq_iff_eq, decide_eq_true_eq] at huv
      exact huv
    refine ⟨rfl, three (pin a ha) (pin b hb) (pin c hc), fun k hk => ?_⟩
    have c : k = 0 ∨ k = 1 := by omega
    rcases c with rfl | rfl
    · exact ppr a b hab
    · exact ppr b c hbc
/-- the numbers that came are looked at -/
def tiEnd (out : List Int) (va : Option Addr) (w1 : World) : Prop := ∃ g off, va = some ⟨g, off, none⟩ ∧ ∀ k, k < out.length → w1.cell? ⟨g, off + k, none⟩ = some (.int .i64 (out.getD k 0))
theorem tiEnd_of {out : List Int} {va : Option Addr} {cc : Nat} {w1 : World} (h : QAt w1 3 (.slice va out.length cc) (out.map intV)) (h0 : 0 < out.length) : tiEnd out va w1 := by
  obtain ⟨g, off, cap, hv, _, _, hc, _, _⟩ := h.shape (by rw [List.length_map]; omega)
  rw [Value.slice.injEq] at hv
  refine ⟨g, off, hv.1, fun k hk => hc k _ ?_⟩
  rw [List.getElem?_map, List.getElem?_eq_getElem hk, getD_lt _ _ _ hk]
  rfl
end Go.Proofs.YtnhidaamfnjdjaaGreatDoor
