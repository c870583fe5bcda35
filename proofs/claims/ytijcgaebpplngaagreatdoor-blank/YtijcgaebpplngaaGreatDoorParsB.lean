import Derived.Test.YtijcgaebpplngaaGreatDoorHeapT
import Derived.Test.YtijcgaebpplngaaGreatDoorParsA
namespace Go.Proofs.YtijcgaebpplngaaGreatDoor
open Go.RowKit

/-- the parser and the tree, in memory from 'base' on -/
def StateAt (base q : Nat) (w : World) (pb : Nat) (s : PS) : Prop :=
  ∃ ρ ms cv, TreeAt w ρ s.nodes ms ∧ ParserAt w ρ pb s.chain ms cv ∧ (∀ k, (k < base ∨ k = q) → ρ k = .junk) ∧ base ≤ w.heap.size ∧ q < w.heap.size ∧ blkOf ms 0 = base

theorem StateAt.below {base q : Nat} {w w' : World} {pb : Nat} {s : PS} (h : StateAt base q w pb s) (hb : Below w.heap.size w w') : StateAt base q w' pb s := by
  obtain ⟨ρ, ms, cv, ht, hp, hj, hbs, hq, hb0⟩ := h
  exact ⟨ρ, ms, cv, ht.frame hb.size (fun b i hlt _ => ⟨hb.block b hlt, rfl⟩), hp.frame (fun b hlt _ => ⟨hb.block b hlt, rfl⟩), hj, Nat.le_trans hbs hb.size, Nat.lt_of_lt_of_le hq hb.size, hb0⟩

set_option maxHeartbeats 1000000 in
theorem add_blank (w : World) (pb : Nat) (line : Bs) (number : Int) (h1 : trimB line = []) :
    Calls Tryz.prog 55 #[.pointer (some ⟨pb, 0, none⟩), .string ⟨line.toArray⟩, .int .i64 number] w fun e w' => e = .returned (.int .i64 0) ∧ w' = w := by
  unfold trimB at h1
  have H1 := hide h1
  clear h1
  go_enter Tryz.func55, Tryz.ntmps55
  go_wp2_with (go_at_call 99; refine (Tryz.strings_TrimLeft_one _ _ (by decide) _).mono ?_; dsimp only; rw [H1.out]; rintro e w' ⟨rfl, rfl⟩)
  go_ret
  exact ⟨rfl, rfl⟩

set_option maxHeartbeats 1000000 in
theorem add_deep (w : World) (pb : Nat) (line : Bs) (number : Int) (hl : line.length ≤ 800) (h1 : trimB line ≠ []) (h2 : 10 < (line.length - (trimB line).length) / 2) :
    Calls Tryz.prog 55 #[.pointer (some ⟨pb, 0, none⟩), .string ⟨line.toArray⟩, .int .i64 number] w fun e w' => e = .returned (.int .i64 3) ∧ w' = w := by
  have hle := trimB_le line
  unfold trimB at h1 h2 hle
  generalize hb : Lib.trimLeftB line 32 = body at h1 h2 hle
  have Hb := hide hb
  have h1' : body.isEmpty = false := by cases body with
    | nil => exact absurd rfl h1
    | cons a l => rfl
  have h3 : (10 : Int) < ((line.length : Int) - (body.length : Int)) / 2 := by omega
  clear h1 h2 hb
  go_enter Tryz.func55, Tryz.ntmps55
  go_wp2_with (go_at_call 99; refine (Tryz.strings_TrimLeft_one _ _ (by decide) _).mono ?_; dsimp only; rw [Hb.out]; rintro e w' ⟨rfl, rfl⟩)
  go_ret
  exact ⟨rfl, rfl⟩

set_option maxHeartbeats 1000000 in
theorem add_wrong (w : World) (ρ : Nat → Role) (pb : Nat) (s : PS) (ms : List NM) (cv : Value) (hp : ParserAt w ρ pb s.chain ms cv) (ht : TreeAt w ρ s.nodes ms) (ok : s.Ok) (line : Bs) (number : Int) (hl : line.length ≤ 800) (h1 : trimB line ≠ []) (h2 : ¬ 10 < (line.length - (trimB line).length) / 2)
    (h3 : (line.length - (trimB line).length) % 2 ≠ 0 ∨ s.fits ((line.length - (trimB line).length) / 2) = false) :
    Calls Tryz.prog 55 #[.pointer (some ⟨pb, 0, none⟩), .string ⟨line.toArray⟩, .int .i64 number] w fun e w' => e = .returned (.int .i64 2) ∧ w' = w := by
  have hle := trimB_le line
  unfold trimB at h1 h2 h3 hle
  generalize hb : Lib.trimLeftB line 32 = body at h1 h2 h3 hle
  have Hb := hide hb
  have h1' : body.isEmpty = false := by cases body with
    | nil => exact absurd rfl h1
    | cons a l => rfl
  have h2' : ¬ (10 : Int) < ((line.length : Int) - (body.length : Int)) / 2 := by omega
  have Hp := hide hp; have Ht := hide ht; have Hok := hide ok
  by_cases ho : (line.length - body.length) % 2 = 0
  · have h4 : s.fits ((line.length - body.length) / 2) = false := by rcases h3 with h | h; exact absurd ho h; exact h
    have H4 := hide h4
    have ho' : ((((line.length : Int) - (body.length : Int)) % 2) != 0) = false := by simp; omega
    have hd : (line.length - body.length) / 2 ≤ 10 := by omega
    have hcast : ((line.length : Int) - (body.length : Int)) / 2 = (((line.length - body.length) / 2 : Nat) : Int) := by omega
    have Hcast := hide hcast
    clear h1 h2 hb h3 h4 hp ht ok ho hcast
    go_enter Tryz.func55, Tryz.ntmps55
    go_wp2_with (first | (go_at_call 99; refine (Tryz.strings_TrimLeft_one _ _ (by decide) _).mono ?_; dsimp only; rw [Hb.out]; rintro e w' ⟨rfl, hw⟩; have hw := hw.symm; subst hw) | (go_at_call 100; rw [Hcast.out]; refine (fits_any _ ρ pb s ms cv Hp.out Ht.out Hok.out _ hd).mono ?_; rw [H4.out]; rintro e w' ⟨rfl, hw⟩; have hw := hw.symm; subst hw))
    go_ret
    exact ⟨rfl, rfl⟩
  · have ho' : ((((line.length : Int) - (body.length : Int)) % 2) != 0) = true := by simp; omega
    clear h1 h2 hb h3 hp ht ok ho
    go_enter Tryz.func55, Tryz.ntmps55
    go_wp2_with (go_at_call 99; refine (Tryz.strings_TrimLeft_one _ _ (by decide) _).mono ?_; dsimp only; rw [Hb.out]; rintro e w' ⟨rfl, rfl⟩)
    go_ret
    exact ⟨rfl, rfl⟩
end Go.Proofs.YtijcgaebpplngaaGreatDoor
