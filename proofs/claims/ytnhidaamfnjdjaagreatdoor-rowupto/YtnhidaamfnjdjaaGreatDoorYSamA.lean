import Derived.Test.YtnhidaamfnjdjaaGreatDoorZMakA
import Derived.Test.YtnhidaamfnjdjaaGreatDoorZMadH
import Derived.Deep.QuietTactic
import Derived.BigQuiet
namespace Go.Proofs.YtnhidaamfnjdjaaGreatDoor
open Go.RowKit Go.Maps
def RowI (w:World) (va:Option Addr) (A:List Int):Prop:=∀ k,k<A.length->∃ g off,va=some ⟨g,off,none⟩∧w.cell? ⟨g,off+k,none⟩=some (.int .i64 (A.getD k 0))
theorem RowI.of {w:World} {va:Option Addr} {A:List Int} {cc:Nat} (h:QAt w 3 (.slice va A.length cc) (A.map intV)):RowI w va A:=by
 intro k hk
 obtain⟨g,off,cap,hv,_,_,hc,_,_⟩:=h.shape (by rw [List.length_map];omega)
 rw [Value.slice.injEq] at hv
 refine⟨g,off,hv.1,hc k _ ?_⟩
 rw [List.getElem?_map,List.getElem?_eq_getElem hk,getD_lt _ _ _ hk]
 rfl
end Go.Proofs.YtnhidaamfnjdjaaGreatDoor
