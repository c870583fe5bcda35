import Derived.Test.YtijcgaebpplngaaGreatDoorRowB
import Derived.Test.YtijcgaebpplngaaGreatDoorTie
import Derived.Test.YtijcgaebpplngaaGreatDoorCards
import Derived.SevenTiedAt
namespace Go.Proofs.YtijcgaebpplngaaGreatDoor
open Go

theorem blank_card : Rows.BlankCardSaid :=
  Claim7.holds_tied_plain_at .later [] [.data, .data, .data, .data, .sentinel, .sentinel, .pinned] true (true, "afe26c25e207732c71de674bc8f2e2c267ea4d745c83ce2a15045b9693401310") true
    blank_holds (fun _ h => by cases h) (by kernel_rfl) (fun _ h => by cases h) blank_row_tie rfl ⟨rfl, rfl⟩ (by kernel_rfl) rfl
    (fun f fn hf hfn => by
      obtain rfl : f = 6 := Option.some.inj ((show Tryz.prog.funcNamed "shuttle/shuttlekeep.Blank" = some 6 by kernel_rfl).symm.trans hf) |>.symm
      obtain rfl : fn = Tryz.f6 := (Option.some.inj (Tryz.func6.symm.trans hfn)).symm
      exact ⟨by kernel_rfl, fun j t ht => by
        rw [Tryz.params6] at ht
        have hm : t ∈ [36, 3, 3, 3] := by simpa using Array.mem_of_getElem? ht
        have hall : ([36, 3, 3, 3].all fun u => !Tryz.prog.wantsStandIn u) = true := by kernel_rfl
        exact (show Tryz.prog.wantsStandIn t = false by simpa using List.all_eq_true.1 hall t hm)⟩)
    (by kernel_rfl)
end Go.Proofs.YtijcgaebpplngaaGreatDoor
