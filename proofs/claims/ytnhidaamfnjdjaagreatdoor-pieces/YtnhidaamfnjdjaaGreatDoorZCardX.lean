import Derived.Test.YtnhidaamfnjdjaaGreatDoorZRowX
import Derived.Test.YtnhidaamfnjdjaaGreatDoorTie
import Derived.Test.YtnhidaamfnjdjaaGreatDoorCards
import Derived.SevenTiedAt
namespace Go.Proofs.YtnhidaamfnjdjaaGreatDoor
open Go
theorem pieces_card:Rows.PiecesCardSaid :=
 Claim7.holds_tied_plain_at .later [] [.data, .data, .data, .data, .sentinel, .sentinel, .pinned] true (true, "52ac78ea144005df6338994291787569787a3eaf9834c36f44180d39727f4353") true
  pieces_holds (fun _ h=>by cases h) (by kernel_rfl) (fun _ h=>by cases h) pieces_row_tie rfl ⟨rfl,rfl⟩ (by kernel_rfl) rfl
  (fun f fn hf hfn=>by
   obtain rfl : f = 9 := Option.some.inj ((show Tryz.prog.funcNamed "shuttle/shuttlekeep.Pieces" = some 9 by kernel_rfl).symm.trans hf) |>.symm
   obtain rfl:fn=Tryz.f9:=(Option.some.inj (Tryz.func9.symm.trans hfn)).symm
   exact⟨by kernel_rfl,fun j t ht=>by
    rw [Tryz.params9] at ht
    have hm:t∈[36,36,36,3]:=by simpa using Array.mem_of_getElem? ht
    have hall:([36,36,36,3].all fun u=>!Tryz.prog.wantsStandIn u)=true:=by kernel_rfl
    exact (show Tryz.prog.wantsStandIn t=false by simpa using List.all_eq_true.1 hall t hm)⟩)
  (by kernel_rfl)
end Go.Proofs.YtnhidaamfnjdjaaGreatDoor
