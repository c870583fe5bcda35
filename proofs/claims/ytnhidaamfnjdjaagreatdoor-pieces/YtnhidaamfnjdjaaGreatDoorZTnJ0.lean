import Derived.Test.YtnhidaamfnjdjaaGreatDoorZBlkE
namespace Go.Proofs.YtnhidaamfnjdjaaGreatDoor
open Go.RowKit Go.Maps
set_option maxRecDepth 100000 in
theorem allS2_0:allS2 4 [0]=true:=by decide +kernel
set_option maxRecDepth 100000 in
theorem allS2_1:allS2 4 [1]=true:=by decide +kernel
set_option maxRecDepth 100000 in
theorem allS2_2:allS2 4 [2]=true:=by decide +kernel
set_option maxRecDepth 100000 in
theorem allS2_3:allS2 4 [3]=true:=by decide +kernel
theorem okShape2_nil:okShape2 []=true:=by decide +kernel
end Go.Proofs.YtnhidaamfnjdjaaGreatDoor
