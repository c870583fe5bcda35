import Derived.Test.YtnhidaamfnjdjaaGreatDoorLawC
import Derived.Test.YtnhidaamfnjdjaaGreatDoorBlkE
namespace Go.Proofs.YtnhidaamfnjdjaaGreatDoor
open Go.RowKit Go.Maps

def pickG (x : Int) (n : Nat) : Nat := ((if x < 0 then -(x + 1) else x) % (n : Int)).toNat
theorem pickG_lt (x : Int) (n : Nat) (h : 0 < n) : pickG x n < n := by
  unfold pickG
  have := Int.emod_lt_of_pos (if x < 0 then -(x + 1) else x) (show (0 : Int) < (n : Int) by omega)
  have := Int.emod_nonneg (if x < 0 then -(x + 1) else x) (show (n : Int) ≠ 0 by omega)
  omega

set_option maxHeartbeats 1000000 in
theorem pickG_any (x : Int) (h1 : -9223372036854775808 ≤ x) (h2 : x ≤ 9223372036854775807) (n : Nat) (hn : 0 < n) (hm : (n : Int) ≤ 1000000000) (w : World) : Calls Tryz.prog 17 #[.int .i64 x, .int .i64 (n : Nat)] w fun e w' => e = .returned (.int .i64 (pickG x n : Nat)) ∧ w' = w := by
  have h0 : ((n : Int) == 0) = false := by simp; omega
  have key : ∀ y : Int, 0 ≤ y → y.tmod n = y % n := fun y hy => Int.tmod_eq_emod_of_nonneg hy
  have pos : ∀ y : Int, 0 ≤ y % (n : Int) := fun y => Int.emod_nonneg _ (by omega)
  go_enter Tryz.func17, Tryz.ntmps17
  go_wp2
  all_goals go_ret
  · rename_i h
    refine ⟨congrArg (fun z => Ending.returned (Value.int .i64 z)) ?_, rfl⟩
    show -(x + 1).tmod n = _
    rw [← Int.neg_tmod, key _ (by omega)]
    have := pos (-(x + 1))
    unfold pickG; rw [if_pos h]; omega
  · rename_i h
    refine ⟨congrArg (fun z => Ending.returned (Value.int .i64 z)) ?_, rfl⟩
    show x % n = _
    have := pos x
    unfold pickG; rw [if_neg (by omega)]; omega

theorem ten_at : ∀ j, j < 10 → (⟨#[48, 49, 50, 51, 52, 53, 54, 55, 56, 57]⟩ : ByteArray).extract j (j + 1) = ⟨[UInt8.ofNat (48 + j)].toArray⟩ := by decide +kernel

set_option maxHeartbeats 1000000 in
theorem num_lo (k : Nat) (hk : k < 10) (w : World) : Calls Tryz.prog 21 #[.int .i64 (k : Nat)] w fun e w' => e = .returned (.string ⟨(digN k).toArray⟩) ∧ w' = w := by
  go_enter Tryz.func21, Tryz.ntmps21
  go_wp2
  go_ret
  refine ⟨congrArg (fun z => Ending.returned (Value.string z)) ?_, rfl⟩
  show (⟨#[48, 49, 50, 51, 52, 53, 54, 55, 56, 57]⟩ : ByteArray).extract (k % 10) (k % 10 + 1) = _
  rw [ten_at _ (by omega)]
  unfold digN
  rw [if_pos hk, Nat.mod_eq_of_lt hk]
set_option maxHeartbeats 1000000 in
theorem num_any (k : Nat) (hk : k < 50) (w : World) : Calls Tryz.prog 21 #[.int .i64 (k : Nat)] w fun e w' => e = .returned (.string ⟨(digN k).toArray⟩) ∧ w' = w := by
  by_cases h : k < 10
  · exact num_lo k h w
  · have hq : (k : Int) / 10 = ((k / 10 : Nat) : Int) := by omega
    have hc := num_lo (k / 10) (by omega) w
    rw [← hq] at hc
    have h2 : (digN (k / 10)).length ≤ 2 := by unfold digN; split <;> simp
    have HC := hide hc
    clear hc hq
    have hsz : (⟨#[48, 49, 50, 51, 52, 53, 54, 55, 56, 57]⟩ : ByteArray).extract (k % 10) (k % 10 + 1) = ⟨[UInt8.ofNat (48 + k % 10)].toArray⟩ := ten_at _ (by omega)
    have hs2 : ((⟨#[48, 49, 50, 51, 52, 53, 54, 55, 56, 57]⟩ : ByteArray).extract (k % 10) (k % 10 + 1)).size = 1 := by rw [hsz]; rfl
    have hs1 : (⟨(digN (k / 10)).toArray⟩ : ByteArray).size ≤ 2 := by simpa [ByteArray.size] using h2
    have HZ := hide hsz
    clear hsz
    go_enter Tryz.func21, Tryz.ntmps21
    go_wp2_with fail
    refine HC.out.mono ?_
    rintro e w1 ⟨rfl, hw⟩
    subst hw
    go_wp2
    go_ret
    refine ⟨congrArg (fun z => Ending.returned (Value.string z)) ?_, rfl⟩
    show (⟨(digN (k / 10)).toArray⟩ : ByteArray) ++ (⟨#[48, 49, 50, 51, 52, 53, 54, 55, 56, 57]⟩ : ByteArray).extract (k % 10) (k % 10 + 1) = _
    rw [HZ.out, ba_append]
    have : digN (k / 10) = [UInt8.ofNat (48 + k / 10)] := by unfold digN; rw [if_pos (by omega)]
    rw [this]
    unfold digN
    rw [if_neg h]
    rfl
theorem num_at (k : Nat) (hk : k < 50) (z : Int) (hz : z = (k : Int)) (w : World) : Calls Tryz.prog 21 #[.int .i64 z] w fun e w' => e = .returned (.string ⟨(digN k).toArray⟩) ∧ w' = w := by
  subst hz; exact num_any k hk w
end Go.Proofs.YtnhidaamfnjdjaaGreatDoor
