import Derived.Test.YtnhidaamfnjdjaaGreatDoorZBlkB
namespace Go.Proofs.YtnhidaamfnjdjaaGreatDoor
theorem allS_20:allS 3 [2,0]=true:=by decide +kernel
theorem allS_21:allS 3 [2,1]=true:=by decide +kernel
theorem allS_22:allS 3 [2,2]=true:=by decide +kernel
theorem allS_23:allS 3 [2,3]=true:=by decide +kernel
theorem okS_2:okShape [2]=true:=by decide +kernel
end Go.Proofs.YtnhidaamfnjdjaaGreatDoor
namespace Go.Proofs.YtnhidaamfnjdjaaGreatDoor
theorem allS_30:allS 3 [3,0]=true:=by decide +kernel
theorem allS_31:allS 3 [3,1]=true:=by decide +kernel
theorem allS_32:allS 3 [3,2]=true:=by decide +kernel
theorem allS_33:allS 3 [3,3]=true:=by decide +kernel
theorem okS_3:okShape [3]=true:=by decide +kernel
end Go.Proofs.YtnhidaamfnjdjaaGreatDoor
