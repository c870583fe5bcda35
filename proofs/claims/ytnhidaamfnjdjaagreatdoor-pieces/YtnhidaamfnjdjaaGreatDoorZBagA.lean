import Derived.Test.YtnhidaamfnjdjaaGreatDoorZLawA
import Derived.Test.YtnhidaamfnjdjaaGreatDoorZBlkE
namespace Go.Proofs.YtnhidaamfnjdjaaGreatDoor
open Go.RowKit Go.Maps
def pickG (x:Int) (n:Nat):Nat:=((if x<0 then -(x+1) else x) % (n:Int)).toNat
theorem pickG_lt (x:Int) (n:Nat) (h:0<n):pickG x n<n:=by
 unfold pickG
 have:=Int.emod_lt_of_pos (if x<0 then -(x+1) else x) (show (0:Int)<(n:Int) by omega)
 have:=Int.emod_nonneg (if x<0 then -(x+1) else x) (show (n:Int)≠0 by omega)
 omega
set_option maxHeartbeats 1000000 in
theorem pickG_any (x:Int) (h1:-9223372036854775808≤x) (h2:x≤9223372036854775807) (n:Nat) (hn:0<n) (hm:(n:Int)≤1000000000) (w:World):Calls Tryz.prog 17 #[.int .i64 x,.int .i64 (n:Nat)] w fun e w'=>e=.returned (.int .i64 (pickG x n:Nat))∧w'=w:=by
 have h0:((n:Int) == 0)=false:=by simp;omega
 have key:∀ y:Int,0≤y->y.tmod n=y % n:=fun y hy=>Int.tmod_eq_emod_of_nonneg hy
 have pos:∀ y:Int,0≤y % (n:Int):=fun y=>Int.emod_nonneg _ (by omega)
 go_enter Tryz.func17,Tryz.ntmps17
 go_wp2
 all_goals go_ret
 ·rename_i h
  refine⟨congrArg (fun z=>Ending.returned (Value.int .i64 z)) ?_,rfl⟩
  show -(x+1).tmod n=_
  rw [<-Int.neg_tmod,key _ (by omega)]
  have:=pos (-(x+1))
  unfold pickG;rw [if_pos h];omega
 ·rename_i h
  refine⟨congrArg (fun z=>Ending.returned (Value.int .i64 z)) ?_,rfl⟩
  show x % n=_
  have:=pos x
  unfold pickG;rw [if_neg (by omega)];omega
theorem ten_at:∀ j,j<10->(⟨#[48,49,50,51,52,53,54,55,56,57]⟩:ByteArray).extract j (j+1)=⟨[UInt8.ofNat (48+j)].toArray⟩:=by decide +kernel
set_option maxHeartbeats 1000000 in
theorem num_lo (k:Nat) (hk:k<10) (w:World):Calls Tryz.prog 21 #[.int .i64 (k:Nat)] w fun e w'=>e=.returned (.string ⟨(digN k).toArray⟩)∧w'=w:=by
 go_enter Tryz.func21,Tryz.ntmps21
 go_wp2
 go_ret
 refine⟨congrArg (fun z=>Ending.returned (Value.string z)) ?_,rfl⟩
 show (⟨#[48,49,50,51,52,53,54,55,56,57]⟩:ByteArray).extract (k % 10) (k % 10+1)=_
 rw [ten_at _ (by omega)]
 unfold digN
 rw [if_pos hk,Nat.mod_eq_of_lt hk]
set_option maxHeartbeats 1000000 in
theorem num_any (k:Nat) (hk:k<50) (w:World):Calls Tryz.prog 21 #[.int .i64 (k:Nat)] w fun e w'=>e=.returned (.string ⟨(digN k).toArray⟩)∧w'=w:=by
 by_cases h:k<10
 ·exact num_lo k h w
 ·have hq:(k:Int) / 10=((k / 10:Nat):Int):=by omega
  have hc:=num_lo (k / 10) (by omega) w
  rw [<-hq] at hc
  have h2:(digN (k / 10)).length≤2:=by unfold digN;split <;> simp
  have HC:=hide hc
  clear hc hq
  have hsz:(⟨#[48,49,50,51,52,53,54,55,56,57]⟩:ByteArray).extract (k % 10) (k % 10+1)=⟨[UInt8.ofNat (48+k % 10)].toArray⟩:=ten_at _ (by omega)
  have hs2:((⟨#[48,49,50,51,52,53,54,55,56,57]⟩:ByteArray).extract (k % 10) (k % 10+1)).size=1:=by rw [hsz];rfl
  have hs1:(⟨(digN (k / 10)).toArray⟩:ByteArray).size≤2:=by simpa [ByteArray.size] using h2
  have HZ:=hide hsz
  clear hsz
  go_enter Tryz.func21,Tryz.ntmps21
  go_wp2_with fail
  refine HC.out.mono ?_
  rintro e w1 ⟨rfl,hw⟩
  subst hw
  go_wp2
  go_ret
  refine⟨congrArg (fun z=>Ending.returned (Value.string z)) ?_,rfl⟩
  show (⟨(digN (k / 10)).toArray⟩:ByteArray)++(⟨#[48,49,50,51,52,53,54,55,56,57]⟩:ByteArray).extract (k % 10) (k % 10+1)=_
  rw [HZ.out,ba_append]
  have:digN (k / 10)=[UInt8.ofNat (48+k / 10)]:=by unfold digN;rw [if_pos (by omega)]
  rw [this]
  unfold digN
  rw [if_neg h]
  rfl
theorem num_at (k:Nat) (hk:k<50) (z:Int) (hz:z=(k:Int)) (w:World):Calls Tryz.prog 21 #[.int .i64 z] w fun e w'=>e=.returned (.string ⟨(digN k).toArray⟩)∧w'=w:=by
 subst hz;exact num_any k hk w
end Go.Proofs.YtnhidaamfnjdjaaGreatDoor
namespace Go.Proofs.YtnhidaamfnjdjaaGreatDoor
open Go.RowKit Go.Maps
theorem pick_at (x:Int) (h1:-9223372036854775808≤x) (h2:x≤9223372036854775807) (n:Nat) (hn:0<n) (hm:(n:Int)≤1000000000) (z:Int) (hz:z=(n:Int)) (c:Nat) (hc:pickG x n=c) (r:Int) (hr:r=(c:Int)) (w:World):Calls Tryz.prog 17 #[.int .i64 x,.int .i64 z] w fun e w'=>e=.returned (.int .i64 r)∧w'=w:=by
 subst hz;subst hc;subst hr;exact pickG_any x h1 h2 n hn hm w
def textI (xs:List Item):Bs:=xs.flatMap fun x=>kl x.d x.b
def rsOf (zs:List Int):List (Nat×Nat):=(zs.take 5).map fun z=>(pickG z 4,pickG (z.tdiv 4) 50)
def bitsT (zs:List Int) (k:Nat):Bs:=textI (headI++((zs.take k).map fun z=>(pickG z 4,pickG (z.tdiv 4) 50)).flatMap fun r=>bitI r.1 r.2)
theorem textI_append (a b:List Item):textI (a++b)=textI a++textI b:=List.flatMap_append
theorem take_next (zs:List Int) (k:Nat) (h:k<zs.length):zs.take (k+1)=zs.take k++[zs.getD k 0]:=by
 rw [List.take_add_one,List.getD];simp [h]
theorem bitsT_next (zs:List Int) (k:Nat) (h:k<zs.length):bitsT zs (k+1)=bitsT zs k++textI (bitI (pickG (zs.getD k 0) 4) (pickG ((zs.getD k 0).tdiv 4) 50)):=by
 unfold bitsT
 rw [take_next zs k h,List.map_append,List.flatMap_append,<-List.append_assoc,textI_append]
 simp
theorem digN_len (k:Nat):(digN k).length≤2:=by unfold digN;split <;> simp
theorem textI_bit_len (c k:Nat):(textI (bitI c k)).length≤120:=by
 have:=digN_len k
 unfold bitI
 split
 ·simp [textI,kl];omega
 ·split
  ·simp [textI,kl];omega
  ·split
   ·simp [textI,kl];omega
   ·simp [textI,kl];omega
theorem bitsT_len (zs:List Int):∀ k,k≤zs.length->(bitsT zs k).length≤100+120 * k
 | 0,_=>by simp [bitsT];decide
 | k+1,h=>by
  rw [bitsT_next zs k (by omega),List.length_append]
  have:=bitsT_len zs k (by omega)
  have:=textI_bit_len (pickG (zs.getD k 0) 4) (pickG ((zs.getD k 0).tdiv 4) 50)
  omega
theorem bs_size (l:Bs):(⟨l.toArray⟩:ByteArray).size=l.length:=by simp [ByteArray.size]
theorem kz0:(lineS 0 [99,104,97,110,32,99]).size≤40:=by rw [lineS_size];decide
theorem kz1:(lineS 1 [99,104,97,110,32,100]).size≤40:=by rw [lineS_size];decide
theorem kz2:(lineS 2 [112,97,114]).size≤40:=by rw [lineS_size];decide
theorem kz3:(lineS 3 [115,101,113]).size≤40:=by rw [lineS_size];decide
theorem kz4:(lineS 4 [105,102]).size≤40:=by rw [lineS_size];decide
theorem kz5:(lineS 6 [99,32,33,32,49]).size≤40:=by rw [lineS_size];decide
theorem kz6:(lineS 5 [119,104,101,110,32,49]).size≤40:=by rw [lineS_size];decide
theorem kz7:(lineS 6 [115,107,105,112]).size≤40:=by rw [lineS_size];decide
theorem kz8:(lineS 4 [112,97,114]).size≤40:=by rw [lineS_size];decide
theorem kz9:(lineS 5 [119,97,105,116,32,51]).size≤40:=by rw [lineS_size];decide
theorem kz10:(lineS 3 [118,97,114,32,121]).size≤40:=by rw [lineS_size];decide
theorem kz11:(lineS 4 [119,104,105,108,101,32,49]).size≤40:=by rw [lineS_size];decide
theorem kz12:(lineS 5 [115,101,113]).size≤40:=by rw [lineS_size];decide
theorem kz13:(lineS 6 [105,110,32,63,32,121]).size≤40:=by rw [lineS_size];decide
theorem kz14:(lineS 6 [100,32,33,32,121]).size≤40:=by rw [lineS_size];decide
theorem kz15:(lineS 3 [118,97,114,32,120]).size≤40:=by rw [lineS_size];decide
theorem kz16:(lineS 5 [97,108,116]).size≤40:=by rw [lineS_size];decide
theorem kz17:(lineS 6 [111,110,32,99,32,63,32,120]).size≤40:=by rw [lineS_size];decide
theorem kz18:(lineS 7 [111,117,116,32,33,32,120]).size≤40:=by rw [lineS_size];decide
theorem kz19:(lineS 6 [111,110,32,40,120,32,60,32,52,48,41,32,38,32,100,32,63,32,120]).size≤40:=by rw [lineS_size];decide
theorem kz20:(lineS 7 [111,117,116,32,33,32,48,32,45,32,120]).size≤40:=by rw [lineS_size];decide
theorem dig_size (k:Nat):(⟨(digN k).toArray⟩:ByteArray).size≤2:=by rw [bs_size];exact digN_len k
theorem kzc (q:Nat):(lineS 4 (99 :: 32 :: 33 :: 32 :: digN q)).size≤40:=by have:=digN_len q;rw [lineS_size];simp;omega
theorem kzd (q:Nat):(lineS 5 (99 :: 32 :: 33 :: 32 :: digN q)).size≤40:=by have:=digN_len q;rw [lineS_size];simp;omega
theorem kzw (q:Nat):(lineS 4 (119 :: 97 :: 105 :: 116 :: 32 :: digN q)).size≤40:=by have:=digN_len q;rw [lineS_size];simp;omega
theorem kzn (q:Nat):(lineS 5 (119 :: 104 :: 101 :: 110 :: 32 :: (digN q++[32,62,32,50,53]))).size≤40:=by have:=digN_len q;rw [lineS_size];simp;omega
theorem td_in (z:Int) (h:-9223372036854775808≤z∧z≤9223372036854775807):-9223372036854775808≤z.tdiv 4∧z.tdiv 4≤9223372036854775807:=by
 rcases Int.le_total 0 z with h0|h0
 ·rw [Int.tdiv_eq_ediv_of_nonneg h0];omega
 ·have e:z.tdiv 4=-((-z).tdiv 4):=by rw [Int.neg_tdiv];omega
  rw [e,Int.tdiv_eq_ediv_of_nonneg (by omega)];omega
set_option maxHeartbeats 8000000 in
theorem bag_any (w:World) (oa:Option Addr) (b off cap:Nat) (zs:List Int) (hl:zs.length≤9223372036854775807) (hoa:0<zs.length->oa=some ⟨b,off,none⟩) (hcl:∀ j,j<zs.length->w.cell? ⟨b,off+j,none⟩=some (.int .i64 (zs.getD j 0))) (hz:∀ z∈zs,-9223372036854775808≤z∧z≤9223372036854775807) :
  Calls Tryz.prog 20 #[.slice oa zs.length cap] w fun e w'=>e=.returned (.string ⟨(textI (bagI (rsOf zs))).toArray⟩)∧w'=w:=by
 have K0:=hide (kline_at ⟨#[99,104,97,110,32,99]⟩ [99,104,97,110,32,99] rfl 0 0 rfl (by decide) (by decide))
 have Z0:=kz0
 have K1:=hide (kline_at ⟨#[99,104,97,110,32,100]⟩ [99,104,97,110,32,100] rfl 1 1 rfl (by decide) (by decide))
 have Z1:=kz1
 have K2:=hide (kline_at ⟨#[112,97,114]⟩ [112,97,114] rfl 2 2 rfl (by decide) (by decide))
 have Z2:=kz2
 have K3:=hide (kline_at ⟨#[115,101,113]⟩ [115,101,113] rfl 3 3 rfl (by decide) (by decide))
 have Z3:=kz3
 have Hcl:=hide hcl;have Hz:=hide hz;have Hoa:=hide hoa
 clear hcl hz hoa
 go_enter Tryz.func20,Tryz.ntmps20
 go_wp2_with (go_at_call 18;(first|with_reducible refine (K0.out _).mono ?_|with_reducible refine (K1.out _).mono ?_|with_reducible refine (K2.out _).mono ?_|with_reducible refine (K3.out _).mono ?_);rintro e wx ⟨rfl,hw⟩;have hw:=hw.symm;subst hw)
 go_loopw [3,4] (fun y x wr=>∃ k:Nat,k≤zs.length∧k≤5∧x=.int .i64 k∧y=.string ⟨(bitsT zs k).toArray⟩∧wr=w) (fun _ x _=>5 - (intOf x).toNat)
 case atStart =>
  refine⟨0,Nat.zero_le _,Nat.zero_le _,rfl,?_,rfl⟩
  simp only [lineS,ba_append]
  rfl
 case round =>
  obtain⟨k,hk,hk5,rfl,rfl,rfl⟩:=hrel
  have hlen:=bitsT_len zs k hk
  have hsz:(⟨(bitsT zs k).toArray⟩:ByteArray).size≤1000:=by rw [bs_size];omega
  have hbl:(bitsT zs k).length≤1000:=by omega
  clear K0 Z0 K1 Z1 K2 Z2 K3 Z3 hlen
  by_cases hr:k<zs.length∧k<5
  ·have hoa:=Hoa.out (by omega)
   subst hoa
   have hcell:=Hcl.out k hr.1
   have hzk:=Hz.out (zs.getD k 0) (by rw [getD_lt _ _ _ hr.1];exact List.getElem_mem hr.1)
   have HN:=hide (bitsT_next zs k hr.1)
   generalize zs.getD k 0=z at *
   have h50:=pickG_lt (z.tdiv 4) 50 (by decide)
   have h4:=pickG_lt z 4 (by decide)
   have htd:=td_in z hzk
   generalize hq:pickG (z.tdiv 4) 50=q at *
   generalize hc4:pickG z 4=c at *
   have P5:=hide (pick_at (z.tdiv 4) htd.1 htd.2 50 (by decide) (by decide) 50 rfl q hq q rfl)
   have PN:=hide (num_any q h50)
   have hds:=dig_size q
   have hdl:=digN_len q
   have hr1:(k:Int)<zs.length:=by omega
   have hr2:(k:Int)<5:=by omega
   have:c=0∨c=1∨c=2∨c=3:=by omega
   rcases this with rfl|rfl|rfl|rfl
   ·-- 0
    have P4:=hide (pick_at z hzk.1 hzk.2 4 (by decide) (by decide) 4 rfl 0 hc4 0 rfl)
    have L0:=hide (kline_at (⟨#[99,32,33,32]⟩++⟨(digN q).toArray⟩) (99 :: 32 :: 33 :: 32 :: digN q) (ba_append _ _) 4 4 rfl (by decide) (by have:=digN_len q;simp;omega))
    have y0:=kzc q
    go_wp2_with (first
     | (go_at_call 17;(first|with_reducible refine (P4.out _).mono ?_|with_reducible refine (P5.out _).mono ?_);rintro e wx ⟨rfl,hw⟩;have hw:=hw.symm;subst hw)
     | (go_at_call 21;refine (PN.out _).mono ?_;rintro e wx ⟨rfl,hw⟩;have hw:=hw.symm;subst hw)
     | (go_at_call 18;(first|with_reducible refine (L0.out _).mono ?_);rintro e wx ⟨rfl,hw⟩;have hw:=hw.symm;subst hw))
    go_roundw
    case rel =>
     refine⟨k+1,by omega,by omega,by go_num,?_,trivial⟩
     rw [HN.out]
     simp only [lineS,ba_append]
     refine congrArg (fun z=>Value.string ⟨List.toArray z⟩) ?_
     simp [textI,bitI,kl]
    case measure=>simp [intOf];omega
   ·-- 1
    have P4:=hide (pick_at z hzk.1 hzk.2 4 (by decide) (by decide) 4 rfl 1 hc4 1 rfl)
    have L0:=hide (kline_at (⟨#[119,97,105,116,32]⟩++⟨(digN q).toArray⟩) (119 :: 97 :: 105 :: 116 :: 32 :: digN q) (ba_append _ _) 4 4 rfl (by decide) (by have:=digN_len q;simp;omega))
    have y0:=kzw q
    go_wp2_with (first
     | (go_at_call 17;(first|with_reducible refine (P4.out _).mono ?_|with_reducible refine (P5.out _).mono ?_);rintro e wx ⟨rfl,hw⟩;have hw:=hw.symm;subst hw)
     | (go_at_call 21;refine (PN.out _).mono ?_;rintro e wx ⟨rfl,hw⟩;have hw:=hw.symm;subst hw)
     | (go_at_call 18;(first|with_reducible refine (L0.out _).mono ?_);rintro e wx ⟨rfl,hw⟩;have hw:=hw.symm;subst hw))
    go_roundw
    case rel =>
     refine⟨k+1,by omega,by omega,by go_num,?_,trivial⟩
     rw [HN.out]
     simp only [lineS,ba_append]
     refine congrArg (fun z=>Value.string ⟨List.toArray z⟩) ?_
     simp [textI,bitI,kl]
    case measure=>simp [intOf];omega
   ·-- 2
    have P4:=hide (pick_at z hzk.1 hzk.2 4 (by decide) (by decide) 4 rfl 2 hc4 2 rfl)
    have L0:=hide (kline_at ((⟨#[119,104,101,110,32]⟩++⟨(digN q).toArray⟩)++⟨#[32,62,32,50,53]⟩) (119 :: 104 :: 101 :: 110 :: 32 :: (digN q++[32,62,32,50,53])) (by rw [ba_append,ba_append];rfl) 5 5 rfl (by decide) (by have:=digN_len q;simp;omega))
    have y0:=kzn q
    have K4:=hide (kline_at ⟨#[105,102]⟩ [105,102] rfl 4 4 rfl (by decide) (by decide))
    have Z4:=kz4
    have K5:=hide (kline_at ⟨#[99,32,33,32,49]⟩ [99,32,33,32,49] rfl 6 6 rfl (by decide) (by decide))
    have Z5:=kz5
    have K6:=hide (kline_at ⟨#[119,104,101,110,32,49]⟩ [119,104,101,110,32,49] rfl 5 5 rfl (by decide) (by decide))
    have Z6:=kz6
    have K7:=hide (kline_at ⟨#[115,107,105,112]⟩ [115,107,105,112] rfl 6 6 rfl (by decide) (by decide))
    have Z7:=kz7
    go_wp2_with (first
     | (go_at_call 17;(first|with_reducible refine (P4.out _).mono ?_|with_reducible refine (P5.out _).mono ?_);rintro e wx ⟨rfl,hw⟩;have hw:=hw.symm;subst hw)
     | (go_at_call 21;refine (PN.out _).mono ?_;rintro e wx ⟨rfl,hw⟩;have hw:=hw.symm;subst hw)
     | (go_at_call 18;(first|with_reducible refine (K4.out _).mono ?_|with_reducible refine (L0.out _).mono ?_|with_reducible refine (K5.out _).mono ?_|with_reducible refine (K6.out _).mono ?_|with_reducible refine (K7.out _).mono ?_);rintro e wx ⟨rfl,hw⟩;have hw:=hw.symm;subst hw))
    go_roundw
    case rel =>
     refine⟨k+1,by omega,by omega,by go_num,?_,trivial⟩
     rw [HN.out]
     simp only [lineS,ba_append]
     refine congrArg (fun z=>Value.string ⟨List.toArray z⟩) ?_
     simp [textI,bitI,kl]
    case measure=>simp [intOf];omega
   ·-- 3
    have P4:=hide (pick_at z hzk.1 hzk.2 4 (by decide) (by decide) 4 rfl 3 hc4 3 rfl)
    have L0:=hide (kline_at (⟨#[99,32,33,32]⟩++⟨(digN q).toArray⟩) (99 :: 32 :: 33 :: 32 :: digN q) (ba_append _ _) 5 5 rfl (by decide) (by have:=digN_len q;simp;omega))
    have y0:=kzd q
    have K8:=hide (kline_at ⟨#[112,97,114]⟩ [112,97,114] rfl 4 4 rfl (by decide) (by decide))
    have Z8:=kz8
    have K9:=hide (kline_at ⟨#[119,97,105,116,32,51]⟩ [119,97,105,116,32,51] rfl 5 5 rfl (by decide) (by decide))
    have Z9:=kz9
    go_wp2_with (first
     | (go_at_call 17;(first|with_reducible refine (P4.out _).mono ?_|with_reducible refine (P5.out _).mono ?_);rintro e wx ⟨rfl,hw⟩;have hw:=hw.symm;subst hw)
     | (go_at_call 21;refine (PN.out _).mono ?_;rintro e wx ⟨rfl,hw⟩;have hw:=hw.symm;subst hw)
     | (go_at_call 18;(first|with_reducible refine (K8.out _).mono ?_|with_reducible refine (L0.out _).mono ?_|with_reducible refine (K9.out _).mono ?_);rintro e wx ⟨rfl,hw⟩;have hw:=hw.symm;subst hw))
    go_roundw
    case rel =>
     refine⟨k+1,by omega,by omega,by go_num,?_,trivial⟩
     rw [HN.out]
     simp only [lineS,ba_append]
     refine congrArg (fun z=>Value.string ⟨List.toArray z⟩) ?_
     simp [textI,bitI,kl]
    case measure=>simp [intOf];omega
  ·have HK:=hide (show k=min zs.length 5 by omega)
   clear Hcl Hz
   have K10:=hide (kline_at ⟨#[118,97,114,32,121]⟩ [118,97,114,32,121] rfl 3 3 rfl (by decide) (by decide))
   have Z10:=kz10
   have K11:=hide (kline_at ⟨#[119,104,105,108,101,32,49]⟩ [119,104,105,108,101,32,49] rfl 4 4 rfl (by decide) (by decide))
   have Z11:=kz11
   have K12:=hide (kline_at ⟨#[115,101,113]⟩ [115,101,113] rfl 5 5 rfl (by decide) (by decide))
   have Z12:=kz12
   have K13:=hide (kline_at ⟨#[105,110,32,63,32,121]⟩ [105,110,32,63,32,121] rfl 6 6 rfl (by decide) (by decide))
   have Z13:=kz13
   have K14:=hide (kline_at ⟨#[100,32,33,32,121]⟩ [100,32,33,32,121] rfl 6 6 rfl (by decide) (by decide))
   have Z14:=kz14
   have K15:=hide (kline_at ⟨#[118,97,114,32,120]⟩ [118,97,114,32,120] rfl 3 3 rfl (by decide) (by decide))
   have Z15:=kz15
   have K16:=hide (kline_at ⟨#[97,108,116]⟩ [97,108,116] rfl 5 5 rfl (by decide) (by decide))
   have Z16:=kz16
   have K17:=hide (kline_at ⟨#[111,110,32,99,32,63,32,120]⟩ [111,110,32,99,32,63,32,120] rfl 6 6 rfl (by decide) (by decide))
   have Z17:=kz17
   have K18:=hide (kline_at ⟨#[111,117,116,32,33,32,120]⟩ [111,117,116,32,33,32,120] rfl 7 7 rfl (by decide) (by decide))
   have Z18:=kz18
   have K19:=hide (kline_at ⟨#[111,110,32,40,120,32,60,32,52,48,41,32,38,32,100,32,63,32,120]⟩ [111,110,32,40,120,32,60,32,52,48,41,32,38,32,100,32,63,32,120] rfl 6 6 rfl (by decide) (by decide))
   have Z19:=kz19
   have K20:=hide (kline_at ⟨#[111,117,116,32,33,32,48,32,45,32,120]⟩ [111,117,116,32,33,32,48,32,45,32,120] rfl 7 7 rfl (by decide) (by decide))
   have Z20:=kz20
   have hcase:(zs.length:Int)≤(k:Int)∨((k:Int)<(zs.length:Int)∧(5:Int)≤(k:Int)):=by omega
   clear hr hk hk5
   rcases hcase with hx|hx
   all_goals
    go_wp2_with fail
    refine (K10.out _).mono ?_
    rintro e wx ⟨rfl,hw⟩
    have hw:=hw.symm
    subst hw
    go_wp2_with fail
    refine (K11.out _).mono ?_
    rintro e wx ⟨rfl,hw⟩
    have hw:=hw.symm
    subst hw
    go_wp2_with fail
    refine (K12.out _).mono ?_
    rintro e wx ⟨rfl,hw⟩
    have hw:=hw.symm
    subst hw
    go_wp2_with fail
    refine (K13.out _).mono ?_
    rintro e wx ⟨rfl,hw⟩
    have hw:=hw.symm
    subst hw
    go_wp2_with fail
    refine (K14.out _).mono ?_
    rintro e wx ⟨rfl,hw⟩
    have hw:=hw.symm
    subst hw
    go_wp2_with fail
    refine (K15.out _).mono ?_
    rintro e wx ⟨rfl,hw⟩
    have hw:=hw.symm
    subst hw
    go_wp2_with fail
    refine (K11.out _).mono ?_
    rintro e wx ⟨rfl,hw⟩
    have hw:=hw.symm
    subst hw
    go_wp2_with fail
    refine (K16.out _).mono ?_
    rintro e wx ⟨rfl,hw⟩
    have hw:=hw.symm
    subst hw
    go_wp2_with fail
    refine (K17.out _).mono ?_
    rintro e wx ⟨rfl,hw⟩
    have hw:=hw.symm
    subst hw
    go_wp2_with fail
    refine (K18.out _).mono ?_
    rintro e wx ⟨rfl,hw⟩
    have hw:=hw.symm
    subst hw
    go_wp2_with fail
    refine (K19.out _).mono ?_
    rintro e wx ⟨rfl,hw⟩
    have hw:=hw.symm
    subst hw
    go_wp2_with fail
    refine (K20.out _).mono ?_
    rintro e wx ⟨rfl,hw⟩
    have hw:=hw.symm
    subst hw
    go_wp2
    go_ret
    refine⟨congrArg (fun z=>Ending.returned (Value.string z)) ?_,rfl⟩
    simp only [lineS,ba_append]
    refine congrArg (fun z=>(⟨List.toArray z⟩:ByteArray)) ?_
    have e1:bagI (rsOf zs)=(headI++((zs.take k).map fun z=>(pickG z 4,pickG (z.tdiv 4) 50)).flatMap fun r=>bitI r.1 r.2)++tailI:=by
     unfold bagI rsOf
     rw [HK.out]
     rcases Nat.le_total zs.length 5 with h5|h5
     ·rw [Nat.min_eq_left h5,List.take_of_length_le (Nat.le_refl _),List.take_of_length_le h5]
     ·rw [Nat.min_eq_right h5]
    rw [e1,textI_append]
    show _=bitsT zs k++_
    simp only [textI,tailI,List.flatMap_cons,List.flatMap_nil,List.append_nil,List.append_assoc]
end Go.Proofs.YtnhidaamfnjdjaaGreatDoor
