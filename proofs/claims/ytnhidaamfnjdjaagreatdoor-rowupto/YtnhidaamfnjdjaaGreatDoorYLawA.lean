import Derived.Test.YtnhidaamfnjdjaaGreatDoorZShaF
namespace Go.Proofs.YtnhidaamfnjdjaaGreatDoor
open Go.RowKit Go.Maps
theorem ba_append (a b:Bs):(⟨a.toArray⟩++⟨b.toArray⟩:ByteArray)=⟨(a++b).toArray⟩:=by
 apply ByteArray.ext
 simp
set_option maxHeartbeats 1000000 in
theorem kline_any (d:Nat) (hd:d≤100) (s:Bs) (hs:s.length≤1000) (w:World):Calls Tryz.prog 18 #[.int .i64 (d:Nat),.string ⟨s.toArray⟩] w fun e w'=>e=.returned (.string ⟨(List.replicate (2 * d) 32++s++[10]).toArray⟩)∧w'=w:=by
 go_enter Tryz.func18,Tryz.ntmps18
 go_wp2_with fail
 go_loopw [5,6] (fun y x wr=>∃ k:Nat,k≤d∧x=.int .i64 k∧y=.string ⟨(List.replicate (2 * k) 32).toArray⟩∧wr=w) (fun _ x _=>d - (intOf x).toNat)
 case atStart=>exact⟨0,Nat.zero_le _,rfl,rfl,rfl⟩
 case round =>
  obtain⟨k,hk,rfl,rfl,rfl⟩:=hrel
  go_wp2_with fail
  ·go_roundw
   case rel =>
    refine⟨k+1,by omega,by go_num,?_,trivial⟩
    have:=ba_append (List.replicate (2 * k) 32) [32,32]
    simp only [List.toArray_replicate] at this ⊢
    rw [this]
    refine congrArg (fun z=>Value.string ⟨z⟩) ?_
    rw [<-List.toArray_replicate]
    congr 1
    rw [show 2 * (k+1)=(2 * k+1)+1 by omega,List.replicate_succ',List.replicate_succ'];simp
   case measure=>simp [intOf];omega
  ·have hke:k=d:=by omega
   subst hke
   go_ret
   refine⟨?_,rfl⟩
   refine congrArg (fun z=>Ending.returned (Value.string z)) ?_
   show (⟨Array.replicate (2 * k) 32⟩++⟨s.toArray⟩++⟨#[10]⟩:ByteArray)=_
   rw [<-List.toArray_replicate,ba_append (List.replicate (2 * k) 32) s]
   exact ba_append _ [10]
end Go.Proofs.YtnhidaamfnjdjaaGreatDoor
namespace Go.Proofs.YtnhidaamfnjdjaaGreatDoor
open Go.RowKit Go.Maps
def kL (d:Nat) (s:Bs):Bs:=List.replicate (2 * d) 32++s++[10]
def lnS (d:Nat) (s:Bs):ByteArray:=⟨(kL d s).toArray⟩
theorem lnS_size (d:Nat) (s:Bs):(lnS d s).size=2 * d+s.length+1:=by
 simp [lnS,kL,ByteArray.size];omega
theorem ln_at (b:ByteArray) (s:Bs) (hb:b=⟨s.toArray⟩) (d:Nat) (z:Int) (hz:z=(d:Int)) (hd:d≤100) (hs:s.length≤1000) (w:World):Calls Tryz.prog 18 #[.int .i64 z,.string b] w fun e w'=>e=.returned (.string (lnS d s))∧w'=w:=by
 subst hb;subst hz
 exact kline_any d hd s hs w
def pickN (x:Int) (n:Nat):Nat:=((if x<0 then -(x+1) else x) % (n:Int)).toNat
theorem pickN_lt (x:Int) (n:Nat) (h:0<n):pickN x n<n:=by
 unfold pickN
 have:=Int.emod_lt_of_pos (if x<0 then -(x+1) else x) (show (0:Int)<(n:Int) by omega)
 have:=Int.emod_nonneg (if x<0 then -(x+1) else x) (show (n:Int)≠0 by omega)
 omega
set_option maxHeartbeats 1000000 in
theorem pickN_any (x:Int) (h1:-9223372036854775808≤x) (h2:x≤9223372036854775807) (n:Nat) (hn:0<n) (hm:(n:Int)≤1000000000) (w:World):Calls Tryz.prog 17 #[.int .i64 x,.int .i64 (n:Nat)] w fun e w'=>e=.returned (.int .i64 (pickN x n:Nat))∧w'=w:=by
 have h0:((n:Int) == 0)=false:=by simp;omega
 have key:∀ y:Int,0≤y->y.tmod n=y % n:=fun y hy=>Int.tmod_eq_emod_of_nonneg hy
 have pos:∀ y:Int,0≤y % (n:Int):=fun y=>Int.emod_nonneg _ (by omega)
 go_enter Tryz.func17,Tryz.ntmps17
 go_wp2
 all_goals go_ret
 ·rename_i h
  refine⟨congrArg (fun z=>Ending.returned (Value.int .i64 z)) ?_,rfl⟩
  show -(x+1).tmod n=_
  rw [<-Int.neg_tmod,key _ (by omega)]
  have:=pos (-(x+1))
  unfold pickN;rw [if_pos h];omega
 ·rename_i h
  refine⟨congrArg (fun z=>Ending.returned (Value.int .i64 z)) ?_,rfl⟩
  show x % n=_
  have:=pos x
  unfold pickN;rw [if_neg (by omega)];omega
theorem pickN_at (x:Int) (h1:-9223372036854775808≤x) (h2:x≤9223372036854775807) (n:Nat) (hn:0<n) (hm:(n:Int)≤1000000000) (z:Int) (hz:z=(n:Int)) (c:Nat) (hc:pickN x n=c) (w:World):Calls Tryz.prog 17 #[.int .i64 x,.int .i64 z] w fun e w'=>e=.returned (.int .i64 (c:Int))∧w'=w:=by
 subst hz;subst hc;exact pickN_any x h1 h2 n hn hm w
def digK (k:Nat):Bs:=if k<10 then [UInt8.ofNat (48+k)] else [UInt8.ofNat (48+k / 10),UInt8.ofNat (48+k % 10)]
theorem digK_len (k:Nat):(digK k).length≤2:=by unfold digK;split <;> simp
theorem bsz (l:Bs):(⟨l.toArray⟩:ByteArray).size=l.length:=by simp [ByteArray.size]
theorem digK_size (k:Nat):(⟨(digK k).toArray⟩:ByteArray).size≤2:=by rw [bsz];exact digK_len k
theorem tenK_at:∀ j,j<10->(⟨#[48,49,50,51,52,53,54,55,56,57]⟩:ByteArray).extract j (j+1)=⟨[UInt8.ofNat (48+j)].toArray⟩:=by decide +kernel
set_option maxHeartbeats 1000000 in
theorem numK_lo (k:Nat) (hk:k<10) (w:World):Calls Tryz.prog 21 #[.int .i64 (k:Nat)] w fun e w'=>e=.returned (.string ⟨(digK k).toArray⟩)∧w'=w:=by
 go_enter Tryz.func21,Tryz.ntmps21
 go_wp2
 go_ret
 refine⟨congrArg (fun z=>Ending.returned (Value.string z)) ?_,rfl⟩
 show (⟨#[48,49,50,51,52,53,54,55,56,57]⟩:ByteArray).extract (k % 10) (k % 10+1)=_
 rw [tenK_at _ (by omega)]
 unfold digK
 rw [if_pos hk,Nat.mod_eq_of_lt hk]
set_option maxHeartbeats 1000000 in
theorem numK_any (k:Nat) (hk:k<100) (w:World):Calls Tryz.prog 21 #[.int .i64 (k:Nat)] w fun e w'=>e=.returned (.string ⟨(digK k).toArray⟩)∧w'=w:=by
 by_cases h:k<10
 ·exact numK_lo k h w
 ·have hq:(k:Int) / 10=((k / 10:Nat):Int):=by omega
  have hc:=numK_lo (k / 10) (by omega) w
  rw [<-hq] at hc
  have h2:=digK_len (k / 10)
  have HC:=hide hc
  clear hc hq
  have hsz:(⟨#[48,49,50,51,52,53,54,55,56,57]⟩:ByteArray).extract (k % 10) (k % 10+1)=⟨[UInt8.ofNat (48+k % 10)].toArray⟩:=tenK_at _ (by omega)
  have hs2:((⟨#[48,49,50,51,52,53,54,55,56,57]⟩:ByteArray).extract (k % 10) (k % 10+1)).size=1:=by rw [hsz];rfl
  have hs1:=digK_size (k / 10)
  have HZ:=hide hsz
  clear hsz
  go_enter Tryz.func21,Tryz.ntmps21
  go_wp2_with fail
  refine HC.out.mono ?_
  rintro e w1 ⟨rfl,hw⟩
  subst hw
  go_wp2
  go_ret
  refine⟨congrArg (fun z=>Ending.returned (Value.string z)) ?_,rfl⟩
  show (⟨(digK (k / 10)).toArray⟩:ByteArray)++(⟨#[48,49,50,51,52,53,54,55,56,57]⟩:ByteArray).extract (k % 10) (k % 10+1)=_
  rw [HZ.out,ba_append]
  have:digK (k / 10)=[UInt8.ofNat (48+k / 10)]:=by unfold digK;rw [if_pos (by omega)]
  rw [this]
  unfold digK
  rw [if_neg h]
  rfl
theorem numK_at (k:Nat) (hk:k<100) (z:Int) (hz:z=(k:Int)) (w:World):Calls Tryz.prog 21 #[.int .i64 z] w fun e w'=>e=.returned (.string ⟨(digK k).toArray⟩)∧w'=w:=by
 subst hz;exact numK_any k hk w
end Go.Proofs.YtnhidaamfnjdjaaGreatDoor
