import Derived.Test.YtnhidaamfnjdjaaGreatDoorYRoK
import Derived.Test.YtnhidaamfnjdjaaGreatDoorYLawA
import Derived.Test.YtnhidaamfnjdjaaGreatDoorZMadH
import Derived.Deep.QuietTactic
import Derived.BigQuiet
namespace Go.Proofs.YtnhidaamfnjdjaaGreatDoor
open Go.RowKit Go.Maps
def rwA:Nat->Bs
 | 0=>[]
 | k+1=>rwA k++kL k ([99,104,97,110,32]++nmR (k+1))
def rwC (n:Nat):Nat->Bs
 | 0=>rwA (n - 1)++kL (n - 1) [112,97,114]
 | j+1=>rwC n j++kL n [118,97,114,32,120]++kL (n+1) [119,104,105,108,101,32,49]++kL (n+2) [115,101,113]++kL (n+3) (nmR j++[32,63,32,120])++kL (n+3) (toR n j++[32,33,32,120,32,43,32]++digK (j+1))
theorem rwC_text (n:Nat) (h1:1≤n) (h5:n≤5):rwC n n=itText (rowI n):=by
 rcases (show n=1∨n=2∨n=3∨n=4∨n=5 by omega) with rfl|rfl|rfl|rfl|rfl <;> decide +kernel
theorem nmR_len (k:Nat):(nmR k).length≤3:=by
 unfold nmR
 rcases (show k=0∨k=1∨k=2∨k=3∨k=4∨k=5∨6≤k by omega) with rfl|rfl|rfl|rfl|rfl|rfl|h
 ·decide
 ·decide
 ·decide
 ·decide
 ·decide
 ·decide
 ·rw [getD_ge _ _ _ h];decide
theorem toR_len (n j:Nat):(toR n j).length≤3:=by
 unfold toR
 split
 ·decide
 ·exact nmR_len _
theorem rwL_len (d:Nat) (s:Bs):(kL d s).length=2 * d+s.length+1:=by simp [kL];omega
theorem rwA_len:∀ k,k≤5->(rwA k).length≤40 * k
 | 0,_=>by simp [rwA]
 | k+1,h=>by
  have:=rwA_len k (by omega)
  have:=nmR_len (k+1)
  simp only [rwA,List.length_append,rwL_len,List.length_cons,List.length_nil]
  omega
theorem rwC_len (n:Nat) (h5:n≤5):∀ j,j≤5->(rwC n j).length≤300+160 * j
 | 0,_=>by
  have:=rwA_len (n - 1) (by omega)
  simp only [rwC,List.length_append,rwL_len,List.length_cons,List.length_nil]
  omega
 | j+1,h=>by
  have:=rwC_len n h5 j (by omega)
  have:=nmR_len j
  have:=toR_len n j
  have:=digK_len (j+1)
  simp only [rwC,List.length_append,rwL_len,List.length_cons,List.length_nil]
  omega
structure RwW (w wr:World):Prop where
 gr:w.grownBy wr none
 strs:∀ k,k<6->wr.cell? ⟨w.heap.size,k,none⟩=some (.string ⟨(nmR k).toArray⟩)
theorem RwW.new (w:World):RwW w (w.alloc (.cells #[.string ⟨#[105,110]⟩,.string ⟨#[97]⟩,.string ⟨#[98]⟩,.string ⟨#[99]⟩,.string ⟨#[100]⟩,.string ⟨#[111,117,116]⟩] 9)):=by
 have a1:=at_new w (.cells #[.string ⟨#[105,110]⟩,.string ⟨#[97]⟩,.string ⟨#[98]⟩,.string ⟨#[99]⟩,.string ⟨#[100]⟩,.string ⟨#[111,117,116]⟩] 9)
 refine⟨World.grownBy_alloc w _ none,fun k hk=>?_⟩
 rcases (show k=0∨k=1∨k=2∨k=3∨k=4∨k=5 by omega) with rfl|rfl|rfl|rfl|rfl|rfl
 ·rw [cell_at a1 0];rfl
 ·rw [cell_at a1 1];rfl
 ·rw [cell_at a1 2];rfl
 ·rw [cell_at a1 3];rfl
 ·rw [cell_at a1 4];rfl
 ·rw [cell_at a1 5];rfl
theorem RwW.drewN {w wr:World} (h:RwW w wr) (n:Nat):RwW w (wr.drewN n):=⟨⟨h.gr.os,h.gr.tape,h.gr.output,h.gr.size,h.gr.block⟩,h.strs⟩
set_option maxRecDepth 20000 in
set_option maxHeartbeats 8000000 in
theorem row_any (n:Nat) (h1:1≤n) (h5:n≤5) (w:World):Calls Tryz.prog 29 #[.int .i64 (n:Int)] w fun e w'=>e=.returned (.string ⟨(itText (rowI n)).toArray⟩)∧Below w.heap.size w w':=by
 have EF:=hide (rwC_text n h1 h5)
 go_enter Tryz.func29,Tryz.ntmps29
 go_wp2
 go_loopw [3,5] (fun u i wr=>∃ k:Nat,k+1≤n∧i=.int .i64 ((k:Int)+1)∧u=.string ⟨(rwA k).toArray⟩∧RwW w wr) (fun _ i _=>n - (intOf i).toNat)
 case atStart=>exact⟨0,h1,rfl,rfl,RwW.new w⟩
 case round =>
  obtain⟨k,hk,rfl,rfl,hrw⟩:=hrel
  have HW:=hide hrw
  by_cases hlt:k+1<n
  ·have cs:=hrw.strs (k+1) (by omega)
   have hsz:(⟨(rwA k).toArray⟩:ByteArray).size≤300:=by rw [bsz];have:=rwA_len k (by omega);omega
   have hnm:(⟨(nmR (k+1)).toArray⟩:ByteArray).size≤3:=by rw [bsz];exact nmR_len _
   have hnl:=nmR_len (k+1)
   have K4:=hide (fun (z:Int) (hz:z=(k:Int))=>ln_at (⟨#[99,104,97,110,32]⟩++⟨(nmR (k+1)).toArray⟩) ([99,104,97,110,32]++nmR (k+1)) (ba_append [99,104,97,110,32] (nmR (k+1))) k z hz (by omega) (by simp;omega))
   have z4:(lnS k ([99,104,97,110,32]++nmR (k+1))).size≤60:=by rw [lnS_size];simp;omega
   have HE:=hide (show (⟨(rwA k).toArray⟩:ByteArray)++lnS k ([99,104,97,110,32]++nmR (k+1))=⟨(rwA (k+1)).toArray⟩ by unfold lnS;rw [ba_append];rfl)
   have hki:(k:Int)+1<n:=by omega
   clear hrw hnl
   generalize (⟨(rwA k).toArray⟩:ByteArray)=bA at *
   generalize lnS k ([99,104,97,110,32]++nmR (k+1))=L4 at *
   generalize (⟨(nmR (k+1)).toArray⟩:ByteArray)=bn at *
   go_wp2_with fail
   refine (K4.out _ rfl _).mono ?_
   rintro e wx ⟨rfl,hw⟩
   have hw:=hw.symm
   subst hw
   go_wp2
   go_roundw
   case rel=>exact⟨k+1,by omega,by go_num,by rw [<-HE.out],HW.out⟩
   case measure=>simp [intOf];omega
  ·have HK:=hide (show k=n - 1 by omega)
   have hsz:(⟨(rwA k).toArray⟩:ByteArray).size≤300:=by rw [bsz];have:=rwA_len k (by omega);omega
   have K4:=hide (ln_at ⟨#[112,97,114]⟩ [112,97,114] rfl (n - 1) ((n:Int) - 1) (by omega) (by omega) (by decide))
   have z4:(lnS (n - 1) [112,97,114]).size≤60:=by rw [lnS_size];simp;omega
   have HE:=hide (show (⟨(rwA k).toArray⟩:ByteArray)++lnS (n - 1) [112,97,114]=⟨(rwC n 0).toArray⟩ by rw [HK.out];unfold lnS;rw [ba_append];rfl)
   have hkn:¬ (k:Int)+1<n:=by omega
   clear hrw hlt hk HK
   generalize (⟨(rwA k).toArray⟩:ByteArray)=bA at *
   generalize lnS (n - 1) [112,97,114]=L4 at *
   go_wp2_with fail
   refine (K4.out _).mono ?_
   rintro e wx ⟨rfl,hw⟩
   have hw:=hw.symm
   subst hw
   go_wp2
   go_loopw [3,6,7] (fun u i _ w1=>∃ j:Nat,j≤n∧i=.int .i64 (j:Int)∧u=.string ⟨(rwC n j).toArray⟩∧RwW w w1) (fun _ i _ _=>n - (intOf i).toNat)
   case atStart=>exact⟨0,Nat.zero_le _,rfl,by rw [<-HE.out],HW.out⟩
   case round =>
    clear HE K4 z4 HW hsz hkn
    obtain⟨j,hj,rfl,rfl,hrw⟩:=hrel
    have HW:=hide hrw
    by_cases hlt:j<n
    ·have cs:=hrw.strs (j+1) (by omega)
     have cs0:=hrw.strs j (by omega)
     have hsz:(⟨(rwC n j).toArray⟩:ByteArray).size≤1200:=by rw [bsz];have:=rwC_len n h5 j (by omega);omega
     have hnm:(⟨(nmR j).toArray⟩:ByteArray).size≤3:=by rw [bsz];exact nmR_len _
     have hdg:=digK_size (j+1)
     have l1:=nmR_len j
     have l2:=toR_len n j
     have l3:=digK_len (j+1)
     have N1:=hide (numK_at (j+1) (by omega) ((j:Int)+1) (by omega))
     have A1:=hide (ln_at ⟨#[118,97,114,32,120]⟩ [118,97,114,32,120] rfl n n rfl (by omega) (by decide))
     have y1:(lnS n [118,97,114,32,120]).size≤60:=by rw [lnS_size];simp;omega
     have A2:=hide (ln_at ⟨#[119,104,105,108,101,32,49]⟩ [119,104,105,108,101,32,49] rfl (n+1) ((n:Int)+1) (by omega) (by omega) (by decide))
     have y2:(lnS (n+1) [119,104,105,108,101,32,49]).size≤60:=by rw [lnS_size];simp;omega
     have A3:=hide (ln_at ⟨#[115,101,113]⟩ [115,101,113] rfl (n+2) ((n:Int)+2) (by omega) (by omega) (by decide))
     have y3:(lnS (n+2) [115,101,113]).size≤60:=by rw [lnS_size];simp;omega
     have A4:=hide (ln_at (⟨(nmR j).toArray⟩++⟨#[32,63,32,120]⟩) (nmR j++[32,63,32,120]) (ba_append (nmR j) [32,63,32,120]) (n+3) ((n:Int)+3) (by omega) (by omega) (by simp;omega))
     have y4:(lnS (n+3) (nmR j++[32,63,32,120])).size≤60:=by rw [lnS_size];simp;omega
     have A5:=hide (ln_at (⟨(toR n j).toArray⟩++⟨#[32,33,32,120,32,43,32]⟩++⟨(digK (j+1)).toArray⟩) (toR n j++[32,33,32,120,32,43,32]++digK (j+1)) (by rw [show (⟨#[32,33,32,120,32,43,32]⟩:ByteArray)=⟨[32,33,32,120,32,43,32].toArray⟩ from rfl,ba_append,ba_append]) (n+3) ((n:Int)+3) (by omega) (by omega) (by simp;omega))
     have y5:(lnS (n+3) (toR n j++[32,33,32,120,32,43,32]++digK (j+1))).size≤60:=by rw [lnS_size];simp;omega
     have HE:=hide (show (⟨(rwC n j).toArray⟩:ByteArray)++lnS n [118,97,114,32,120]++lnS (n+1) [119,104,105,108,101,32,49]++lnS (n+2) [115,101,113]++lnS (n+3) (nmR j++[32,63,32,120])++lnS (n+3) (toR n j++[32,33,32,120,32,43,32]++digK (j+1))=⟨(rwC n (j+1)).toArray⟩ by unfold lnS;rw [ba_append,ba_append,ba_append,ba_append,ba_append];rfl)
     have hji:(j:Int)<n:=by omega
     have hcase:((((j:Int) == (n:Int) - 1)=true)∧toR n j=[111,117,116])∨((((j:Int) == (n:Int) - 1)=false)∧toR n j=nmR (j+1)):=by
      unfold toR
      by_cases e:j+1=n
      ·left;rw [if_pos e];exact⟨by simp;omega,rfl⟩
      ·right;rw [if_neg e];exact⟨by simp;omega,rfl⟩
     have hn1:(⟨(nmR (j+1)).toArray⟩:ByteArray).size≤3:=by rw [bsz];exact nmR_len _
     clear hrw l1 l2 l3 hlt
     generalize (⟨(rwC n j).toArray⟩:ByteArray)=bC at *
     generalize lnS n [118,97,114,32,120]=R1 at *
     generalize lnS (n+1) [119,104,105,108,101,32,49]=R2 at *
     generalize lnS (n+2) [115,101,113]=R3 at *
     generalize lnS (n+3) (nmR j++[32,63,32,120])=R4 at *
     generalize lnS (n+3) (toR n j++[32,33,32,120,32,43,32]++digK (j+1))=R5 at *
     generalize (⟨(digK (j+1)).toArray⟩:ByteArray)=bd at *
     rcases hcase with ⟨hb,e⟩|⟨hb,e⟩
     all_goals
      rw [e] at A5
      clear e
     case' inr =>
      generalize (⟨(nmR (j+1)).toArray⟩:ByteArray)=bm at *
     all_goals
      generalize (⟨(nmR j).toArray⟩:ByteArray)=bn at *
      go_wp2_with fail
      go_big_quiet (first
       | (go_at_call 21;with_reducible refine Calls.quiet_of_same (N1.out _))
       | (go_at_call 18;with_reducible refine Calls.quiet_of_same (A1.out _))
       | (go_at_call 18;with_reducible refine Calls.quiet_of_same (A2.out _))
       | (go_at_call 18;with_reducible refine Calls.quiet_of_same (A3.out _))
       | (go_at_call 18;with_reducible refine Calls.quiet_of_same (A4.out _))
       | (go_at_call 18;with_reducible refine Calls.quiet_of_same (A5.out _)))
      go_wp2
      go_roundw
      case rel=>exact⟨j+1,by omega,by go_num,by rw [<-HE.out],HW.out.drewN _⟩
      case measure=>simp [intOf];omega
    ·obtain rfl:j=n:=by omega
     have hsz:(⟨(rwC j j).toArray⟩:ByteArray).size≤1200:=by rw [bsz];have:=rwC_len j h5 j (by omega);omega
     clear hrw hlt hj
     generalize hE:(⟨(rwC j j).toArray⟩:ByteArray)=bC at *
     have HE:=hide hE
     clear hE
     go_wp2
     go_ret
     refine⟨?_,?_⟩
     ·rw [<-HE.out,EF.out]
      rfl
     ·have g:=HW.out.gr
      exact⟨g.os,g.tape,g.output,g.size,fun q hq=>g.block q hq (by simp)⟩
end Go.Proofs.YtnhidaamfnjdjaaGreatDoor
