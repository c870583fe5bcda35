import Derived.Test.YtnhidaamfnjdjaaGreatDoorZShaF
import Derived.Deep.QuietTactic
import Derived.BigQuiet
namespace Go.Proofs.YtnhidaamfnjdjaaGreatDoor
open Go.RowKit Go.Maps
theorem ba_append (a b:Bs):(⟨a.toArray⟩++⟨b.toArray⟩:ByteArray)=⟨(a++b).toArray⟩:=by
 apply ByteArray.ext
 simp
set_option maxHeartbeats 1000000 in
theorem kline_any (d:Nat) (hd:d≤100) (s:Bs) (hs:s.length≤1000) (w:World):Calls Tryz.prog 18 #[.int .i64 (d:Nat),.string ⟨s.toArray⟩] w fun e w'=>e=.returned (.string ⟨(List.replicate (2 * d) 32++s++[10]).toArray⟩)∧w'=w:=by
 go_enter Tryz.func18,Tryz.ntmps18
 go_wp2_with fail
 go_loopw [5,6] (fun y x wr=>∃ k:Nat,k≤d∧x=.int .i64 k∧y=.string ⟨(List.replicate (2 * k) 32).toArray⟩∧wr=w) (fun _ x _=>d - (intOf x).toNat)
 case atStart=>exact⟨0,Nat.zero_le _,rfl,rfl,rfl⟩
 case round =>
  obtain⟨k,hk,rfl,rfl,rfl⟩:=hrel
  go_wp2_with fail
  ·go_roundw
   case rel =>
    refine⟨k+1,by omega,by go_num,?_,trivial⟩
    have:=ba_append (List.replicate (2 * k) 32) [32,32]
    simp only [List.toArray_replicate] at this ⊢
    rw [this]
    refine congrArg (fun z=>Value.string ⟨z⟩) ?_
    rw [<-List.toArray_replicate]
    congr 1
    rw [show 2 * (k+1)=(2 * k+1)+1 by omega,List.replicate_succ',List.replicate_succ'];simp
   case measure=>simp [intOf];omega
  ·have hke:k=d:=by omega
   subst hke
   go_ret
   refine⟨?_,rfl⟩
   refine congrArg (fun z=>Ending.returned (Value.string z)) ?_
   show (⟨Array.replicate (2 * k) 32⟩++⟨s.toArray⟩++⟨#[10]⟩:ByteArray)=_
   rw [<-List.toArray_replicate,ba_append (List.replicate (2 * k) 32) s]
   exact ba_append _ [10]
end Go.Proofs.YtnhidaamfnjdjaaGreatDoor
namespace Go.Proofs.YtnhidaamfnjdjaaGreatDoor
open Go.RowKit Go.Maps
end Go.Proofs.YtnhidaamfnjdjaaGreatDoor
namespace Go.Proofs.YtnhidaamfnjdjaaGreatDoor
open Go.RowKit Go.Maps
def kl (d:Nat) (s:Bs):Bs:=List.replicate (2 * d) 32++s++[10]
end Go.Proofs.YtnhidaamfnjdjaaGreatDoor
namespace Go.Proofs.YtnhidaamfnjdjaaGreatDoor
open Go.RowKit Go.Maps
def lineS (d:Nat) (s:Bs):ByteArray:=⟨(kl d s).toArray⟩
theorem kline_at (b:ByteArray) (s:Bs) (hb:b=⟨s.toArray⟩) (d:Nat) (z:Int) (hz:z=(d:Int)) (hd:d≤100) (hs:s.length≤1000) (w:World):Calls Tryz.prog 18 #[.int .i64 z,.string b] w fun e w'=>e=.returned (.string (lineS d s))∧w'=w:=by
 subst hb;subst hz
 exact kline_any d hd s hs w
theorem lineS_size (d:Nat) (s:Bs):(lineS d s).size=2 * d+s.length+1:=by
 simp [lineS,kl,ByteArray.size];omega
end Go.Proofs.YtnhidaamfnjdjaaGreatDoor
