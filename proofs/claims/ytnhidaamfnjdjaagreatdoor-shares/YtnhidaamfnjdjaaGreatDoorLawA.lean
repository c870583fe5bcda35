import Derived.Test.YtnhidaamfnjdjaaGreatDoorShaF
namespace Go.Proofs.YtnhidaamfnjdjaaGreatDoor
open Go.RowKit Go.Maps

def pickF (x : Int) : Nat := ((if x < 0 then -(x + 1) else x) % 3).toNat
theorem pickF_lt (x : Int) : pickF x < 3 := by unfold pickF; omega

set_option maxHeartbeats 1000000 in
theorem pick_any (x : Int) (h1 : -9223372036854775808 ≤ x) (h2 : x ≤ 9223372036854775807) (w : World) : Calls Tryz.prog 17 #[.int .i64 x, .int .i64 3] w fun e w' => e = .returned (.int .i64 (pickF x : Nat)) ∧ w' = w := by
  go_enter Tryz.func17, Tryz.ntmps17
  go_wp2
  all_goals go_ret
  · rename_i h
    refine ⟨congrArg (fun z => Ending.returned (Value.int .i64 z)) ?_, rfl⟩
    show -(x + 1).tmod 3 = _
    rw [← Int.neg_tmod, Int.tmod_eq_emod_of_nonneg (by omega)]
    unfold pickF; rw [if_pos h]; omega
  · rename_i h
    refine ⟨congrArg (fun z => Ending.returned (Value.int .i64 z)) ?_, rfl⟩
    show x % 3 = _
    unfold pickF; rw [if_neg (by omega)]; omega

theorem ba_append (a b : Bs) : (⟨a.toArray⟩ ++ ⟨b.toArray⟩ : ByteArray) = ⟨(a ++ b).toArray⟩ := by
  apply ByteArray.ext
  simp

set_option maxHeartbeats 1000000 in
theorem kline_any (d : Nat) (hd : d ≤ 100) (s : Bs) (hs : s.length ≤ 1000) (w : World) : Calls Tryz.prog 18 #[.int .i64 (d : Nat), .string ⟨s.toArray⟩] w fun e w' => e = .returned (.string ⟨(List.replicate (2 * d) 32 ++ s ++ [10]).toArray⟩) ∧ w' = w := by
  go_enter Tryz.func18, Tryz.ntmps18
  go_wp2_with fail
  go_loopw [5, 6] (fun y x wr => ∃ k : Nat, k ≤ d ∧ x = .int .i64 k ∧ y = .string ⟨(List.replicate (2 * k) 32).toArray⟩ ∧ wr = w) (fun _ x _ => d - (intOf x).toNat)
  case atStart => exact ⟨0, Nat.zero_le _, rfl, rfl, rfl⟩
  case round =>
    obtain ⟨k, hk, rfl, rfl, rfl⟩ := hrel
    go_wp2_with fail
    · go_roundw
      case rel =>
        refine ⟨k + 1, by omega, by go_num, ?_, trivial⟩
        have := ba_append (List.replicate (2 * k) 32) [32, 32]
        simp only [List.toArray_replicate] at this ⊢
        rw [this]
        refine congrArg (fun z => Value.string ⟨z⟩) ?_
        rw [← List.toArray_replicate]
        congr 1
        rw [show 2 * (k + 1) = (2 * k + 1) + 1 by omega, List.replicate_succ', List.replicate_succ']; simp
      case measure => simp [intOf]; omega
    · have hke : k = d := by omega
      subst hke
      go_ret
      refine ⟨?_, rfl⟩
      refine congrArg (fun z => Ending.returned (Value.string z)) ?_
      show (⟨Array.replicate (2 * k) 32⟩ ++ ⟨s.toArray⟩ ++ ⟨#[10]⟩ : ByteArray) = _
      rw [← List.toArray_replicate, ba_append (List.replicate (2 * k) 32) s]
      exact ba_append _ [10]
end Go.Proofs.YtnhidaamfnjdjaaGreatDoor
