import Derived.Test.YtnhidaamfnjdjaaGreatDoorYRowY
import Derived.Test.YtnhidaamfnjdjaaGreatDoorTie
import Derived.Test.YtnhidaamfnjdjaaGreatDoorCards
import Derived.SevenTiedAt
namespace Go.Proofs.YtnhidaamfnjdjaaGreatDoor
open Go
theorem row_card:Rows.RowUptoCardSaid :=
 Claim7.holds_tied_plain_at .later [] [.data, .data, .data, .data, .sentinel, .sentinel, .pinned] true (true, "52ac78ea144005df6338994291787569787a3eaf9834c36f44180d39727f4353") true
  row_holds (fun _ h=>by cases h) (by kernel_rfl) (fun _ h=>by cases h) rowUpto_row_tie rfl ⟨rfl,rfl⟩ (by kernel_rfl) rfl
  (fun f fn hf hfn=>by
   obtain rfl : f = 10 := Option.some.inj ((show Tryz.prog.funcNamed "shuttle/shuttlekeep.Row" = some 10 by kernel_rfl).symm.trans hf) |>.symm
   obtain rfl:fn=Tryz.f10:=(Option.some.inj (Tryz.func10.symm.trans hfn)).symm
   exact⟨by kernel_rfl,fun j t ht=>by
    rw [Tryz.params10] at ht
    have hm:t∈[3,36,36]:=by simpa using Array.mem_of_getElem? ht
    have hall:([3,36,36].all fun u=>!Tryz.prog.wantsStandIn u)=true:=by kernel_rfl
    exact (show Tryz.prog.wantsStandIn t=false by simpa using List.all_eq_true.1 hall t hm)⟩)
  (by kernel_rfl)
end Go.Proofs.YtnhidaamfnjdjaaGreatDoor
