import Derived.Test.YtnhidaamfnjdjaaGreatDoorZBlkB
namespace Go.Proofs.YtnhidaamfnjdjaaGreatDoor
theorem allS_00:allS 3 [0,0]=true:=by decide +kernel
theorem allS_01:allS 3 [0,1]=true:=by decide +kernel
theorem allS_02:allS 3 [0,2]=true:=by decide +kernel
theorem allS_03:allS 3 [0,3]=true:=by decide +kernel
theorem okS_0:okShape [0]=true:=by decide +kernel
end Go.Proofs.YtnhidaamfnjdjaaGreatDoor
namespace Go.Proofs.YtnhidaamfnjdjaaGreatDoor
theorem allS_10:allS 3 [1,0]=true:=by decide +kernel
theorem allS_11:allS 3 [1,1]=true:=by decide +kernel
theorem allS_12:allS 3 [1,2]=true:=by decide +kernel
theorem allS_13:allS 3 [1,3]=true:=by decide +kernel
theorem okS_1:okShape [1]=true:=by decide +kernel
end Go.Proofs.YtnhidaamfnjdjaaGreatDoor
