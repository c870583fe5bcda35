import Derived.Test.YtnhidaamfnjdjaaGreatDoorRowB
import Derived.Test.YtnhidaamfnjdjaaGreatDoorTie
import Derived.Test.YtnhidaamfnjdjaaGreatDoorCards
import Derived.SevenTiedAt
namespace Go.Proofs.YtnhidaamfnjdjaaGreatDoor
open Go

theorem blank_card : Rows.BlankCardSaid :=
  Claim7.holds_tied_plain_at .later [] [.data, .data, .data, .data, .sentinel, .sentinel, .pinned] true (true, "52ac78ea144005df6338994291787569787a3eaf9834c36f44180d39727f4353") true
    blank_holds (fun _ h => by cases h) (by kernel_rfl) (fun _ h => by cases h) blank_row_tie rfl ⟨rfl, rfl⟩ (by kernel_rfl) rfl
    (fun f fn hf hfn => by
      obtain rfl : f = 7 := Option.some.inj ((show Tryz.prog.funcNamed "shuttle/shuttlekeep.Blank" = some 7 by kernel_rfl).symm.trans hf) |>.symm
      obtain rfl : fn = Tryz.f7 := (Option.some.inj (Tryz.func7.symm.trans hfn)).symm
      exact ⟨by kernel_rfl, fun j t ht => by
        rw [Tryz.params7] at ht
        have hm : t ∈ [36, 3, 3, 3] := by simpa using Array.mem_of_getElem? ht
        have hall : ([36, 3, 3, 3].all fun u => !Tryz.prog.wantsStandIn u) = true := by kernel_rfl
        exact (show Tryz.prog.wantsStandIn t = false by simpa using List.all_eq_true.1 hall t hm)⟩)
    (by kernel_rfl)
end Go.Proofs.YtnhidaamfnjdjaaGreatDoor
