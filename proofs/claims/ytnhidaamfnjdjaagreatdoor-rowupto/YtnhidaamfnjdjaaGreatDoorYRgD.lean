import Derived.Test.YtnhidaamfnjdjaaGreatDoorYRgB
namespace Go.Proofs.YtnhidaamfnjdjaaGreatDoor
open Go.RowKit Go.Maps
theorem rowI_below {w w':World} {va:Option Addr} {A:List Int} (h:RowI w va A) (b:Below w.heap.size w w'):RowI w' va A:=by
 intro k hk
 obtain⟨g,off,e,hc⟩:=h k hk
 refine⟨g,off,e,?_⟩
 rw [<-hc]
 exact World.cell?_of_block (b.block g (cell_lt hc))
theorem row_at (n:Nat) (h1:1≤n) (h5:n≤5) (z:Int) (hz:z=(n:Int)) (w:World):Calls Tryz.prog 29 #[.int .i64 z] w fun e w'=>e=.returned (.string ⟨(itText (rowI n)).toArray⟩)∧Below w.heap.size w w':=by
 subst hz
 exact row_any n h1 h5 w
theorem below_two {B:Nat} {w w1 w2:World} (h:Below w.heap.size w w1) (k:Below w1.heap.size w1 w2) (hB:B=w.heap.size):Below B w w2:=by
 subst hB
 exact⟨k.os.trans h.os,k.tape.trans h.tape,k.output.trans h.output,Nat.le_trans h.size k.size,fun g hg=>(k.block g (Nat.lt_of_lt_of_le hg h.size)).trans (h.block g hg)⟩
set_option maxRecDepth 20000 in
set_option maxHeartbeats 8000000 in
theorem Row_any (w:World) (m0:Int) (hm:w.cell? ⟨0,0,none⟩=some (.int .i64 m0)) (stages:Int) (hst:-9223372036854775808≤stages∧stages≤9223372036854775807)
  (ob:Option Addr) (cb:Nat) (ns:List Int) (hnl:ns.length≤1048576) (hn:RowI w ob ns) (oc:Option Addr) (cc:Nat) (ss:List Int) (hsl:ss.length≤1048576) (hs:RowI w oc ss) (hsz:∀ z∈ss,-9223372036854775808≤z∧z≤9223372036854775807) :
  Calls Tryz.prog 10 #[.int .i64 stages,.slice ob ns.length cb,.slice oc ss.length cc] w fun e w'=>e=.returned (.bool true)∧Below w.heap.size w w':=by
 have hc:=pickN_lt stages 5 (by decide)
 generalize ec:pickN stages 5=c at *
 have P1:=hide (pickN_at stages hst.1 hst.2 5 (by decide) (by decide) 5 rfl c ec)
 obtain⟨T,C,nn,rm,load⟩:=row_machine (c+1) (by omega) (by omega)
 have R1:=hide (row_at (c+1) (by omega) (by omega) (1+(c:Int)) (by omega))
 have L:=hide (fun (w1:World) (h1:w1.cell? ⟨0,0,none⟩=some (.int .i64 m0))=>load _ rfl w1 m0 h1)
 have hm1:=hide (fun (w1:World) (b:Below w.heap.size w w1)=>(World.cell?_of_block (b.block 0 (cell_lt hm))).trans hm)
 have Hn:=hide hn
 have Hs:=hide hs
 have Hsz:=hide hsz
 have RM:=hide rm
 clear load hm hn hs hsz rm ec hst
 generalize itText (rowI (c+1))=tx at *
 go_enter Tryz.func10,Tryz.ntmps10
 go_wp2_with fail
 refine (P1.out _).mono ?_
 rintro e wx ⟨rfl,hw⟩
 have hw:=hw.symm
 subst hw
 go_wp2_with fail
 refine (R1.out _).mono ?_
 rintro e w1 ⟨rfl,b1⟩
 have B1:=hide b1
 clear b1
 go_wp2_with fail
 refine (L.out _ (hm1.out _ B1.out)).mono ?_
 rintro e w2 ⟨lb,xb,ρb,Vb,rfl,lb0,sh2,b2,j2⟩
 have HP:=hide (RO.new sh2 (Nat.le_trans B1.out.size lb0) (below_two B1.out b2 rfl) (fun g hg=>j2 g (Nat.lt_of_lt_of_le hg B1.out.size)))
 clear sh2 b2 j2 B1 L R1 P1 lb0
 go_wp2
 have hS:wrap64 ((wrap64 ((1+(c:Int)) * (1+(c:Int)+1))).tdiv 2)=(((c+1) * (c+2) / 2:Nat):Int):=by
  rcases (show c=0∨c=1∨c=2∨c=3∨c=4 by omega) with rfl|rfl|rfl|rfl|rfl <;> decide +kernel
 have hS2:1≤(c+1) * (c+2) / 2∧(c+1) * (c+2) / 2≤15:=by
  rcases (show c=0∨c=1∨c=2∨c=3∨c=4 by omega) with rfl|rfl|rfl|rfl|rfl <;> decide
 have FR:=hide (fun y=>finR_is y c)
 rw [hS]
 clear hS
 generalize (c+1) * (c+2) / 2=S at *
 generalize wrap64 ((1+(c:Int)) * (1+(c:Int)+1))=q0 at *
 go_loopw [9,11] (fun v i wr=>∃ k:Nat,k≤ns.length+1∧i=.int .i64 (k:Int)∧FdI w wr lb T C nn (c+1) ns k v) (fun _ i _=>ns.length+1 - (intOf i).toNat)
 case atStart =>
  exact⟨0,Nat.zero_le _,rfl,⟨newF C,[],0,_,[],HP.out,MchR.start RM.out,rfl,by omega,by omega⟩⟩
 case round =>
  clear HP
  obtain⟨k,hk,rfl,fi⟩:=hrel
  by_cases hlt:k<ns.length+1
  ·obtain⟨s0,o0,N0,Φ0,G0,ro0,_⟩:=fi.ex
   have bel:=ro0.bel
   obtain⟨s,o,fd,nx0,nx1⟩:=fi.fed RM.out (by omega) hnl hlt
   have hk1:(k:Int)<(ns.length:Int)+1:=by omega
   have hcase:(k<ns.length∧numR ns k=ns.getD k 0)∨(¬ (k:Int)<ns.length∧numR ns k=77):=by
    unfold numR
    by_cases e:k<ns.length
    ·left
     refine⟨e,?_⟩
     rw [List.getD,List.getElem?_append_left e]
     rfl
    ·right
     refine⟨by omega,?_⟩
     rw [show k=ns.length by omega,List.getD,List.getElem?_append_right (Nat.le_refl _)]
     simp
   rcases hcase with ⟨hx,ex⟩|⟨hx,ex⟩
   case' inl =>
    obtain⟨g,off,rfl,c1⟩:=(rowI_below Hn.out bel) k hx
    have hx':(k:Int)<ns.length:=by omega
   all_goals
    rw [ex] at fd
    have F1:=hide fd
    have NX0:=hide nx0
    have NX1:=hide nx1
    clear fd nx0 nx1 fi ro0 bel ex
   case' inl =>
    generalize ns.getD k 0=x0 at *
    clear hx
   all_goals
    go_wp2_with fail
    refine F1.out.mono ?_
    rintro e w3 ⟨rfl,r3⟩
    have R3:=hide r3
    have bel:=r3.bel
    clear r3 F1
    by_cases hss:0<ss.length
    ·have hmod:k % ss.length<ss.length:=Nat.mod_lt _ hss
     have hsI:(0:Int)<ss.length:=by omega
     obtain⟨g2,off2,rfl,c2⟩:=(rowI_below Hs.out bel) (k % ss.length) hmod
     have hxr:=Hsz.out (ss.getD (k % ss.length) 0) (by rw [getD_lt _ _ _ hmod];exact List.getElem_mem hmod)
     generalize ss.getD (k % ss.length) 0=x1 at *
     have hc20:=pickN_lt x1 20 (by decide)
     generalize ec2:pickN x1 20=c3 at *
     have P9:=hide (pickN_at x1 hxr.1 hxr.2 20 (by decide) (by decide) 20 rfl c3 ec2)
     obtain⟨d,st,s',hol,run,fin⟩:=NX1.out c3 (by omega)
     have RB:=hide (run _ R3.out)
     have FN:=hide fin
     clear run fin hxr ec2 bel NX0 NX1 R3
     have hmi:((k:Int).tmod ss.length)=((k % ss.length:Nat):Int):=by rw [Int.tmod_eq_emod_of_nonneg (by omega)];rfl
     generalize hq:k % ss.length=q at *
     go_wp2_with fail
     refine (P9.out _).mono ?_
     rintro e wx ⟨rfl,hw⟩
     have hw:=hw.symm
     subst hw
     clear P9 c2
     go_wp2_with fail
     refine RB.out.mono ?_
     rintro e w6 ⟨rfl,r6⟩
     have OB:=hide (r6.out s'.out rfl)
     clear r6 RB
     go_wp2_with fail
     refine OB.out.mono ?_
     rintro e w7 ⟨va,vc,rfl,q7,r7⟩
     have ROW:=hide r7.row
     have Q7:=hide q7
     have GR:=hide (fun (v':Value) (w8:World) (r8:w8.ownsRow 0 3 1 v' (o.length+s'.out.length) (o.map intV++s'.out.map intV)) (g8:w7.grownBy w8 _) (b8:_)=>FN.out w8 v' (r7.grown r8 g8 b8))
     clear r7 q7 OB FN
     have hone:∀ u∈s'.out.map intV,u.oneCell'=true:=fun u hu=>by
      obtain⟨z,_,rfl⟩:=List.mem_map.1 hu
      rfl
     have hlen:o.length+(s'.out.map intV).length≤1000000000000:=by rw [List.length_map];exact hol
     go_wp2_with (at_builtin;refine wpList_appendRL Tryz.underlying36 intInfo' rfl (by decide) rfl _ _ rfl _ o.length (o.map intV) rfl ROW.out (.slice va s'.out.length vc) (s'.out.map intV) rfl Q7.out hone hlen ?_;intro v' w8 r8 g8 b8;rw [List.length_map] at r8;have NP:=hide (GR.out v' w8 r8 g8 b8);clear r8 g8 b8)
     go_roundw
     case rel=>exact⟨k+1,by omega,by go_num,NP.out⟩
     case measure=>simp [intOf];omega
    ·have hsI:(ss.length:Int)≤0:=by omega
     have NP:=hide (NX0.out _ R3.out)
     clear hss bel NX0 NX1 R3
     go_wp2
     go_roundw
     case rel=>exact⟨k+1,by omega,by go_num,NP.out⟩
     case measure=>simp [intOf];omega
  ·have hkn:k=ns.length+1:=by omega
   have rn:=hide ((hkn ▸ fi:FdI w _ lb T C nn (c+1) ns (ns.length+1) _).rn)
   have hk1:¬ (k:Int)<(ns.length:Int)+1:=by omega
   clear fi hkn hlt hk
   go_wp2
   go_loopw [14,15] (fun st i wr=>∃ (j:Nat) (oo:Int),i=.int .i64 (j:Int)∧st=.int .i64 oo∧(j:Int)≤100 * ns.length+200∧RnI w wr lb T C nn (c+1) ns j oo u9) (fun _ i _=>100 * ns.length+200 - (intOf i).toNat)
   case atStart=>exact⟨0,1,rfl,rfl,by omega,rn.out⟩
   case round =>
    clear rn
    obtain⟨j,oo,rfl,rfl,hj,ri⟩:=hrel
    by_cases h1:oo=1
    ·subst h1
     have hlt:=ri.more RM.out rfl
     obtain⟨d,st,s',o,run,nx⟩:=ri.round RM.out hnl hlt
     have RB:=hide run
     have NX:=hide nx
     clear ri run nx
     go_wp2_with fail
     refine RB.out.mono ?_
     rintro e w6 ⟨rfl,r6⟩
     have NP:=hide (NX.out _ r6)
     clear r6 RB NX
     go_wp2
     go_roundw
     case rel=>exact⟨j+1,st,by go_num,rfl,by omega,NP.out⟩
     case measure=>simp [intOf];omega
    ·obtain⟨h3,s,o,ro,hE,htm⟩:=ri.done RM.out h1
     subst h3
     have OB:=hide (ro.out s.out rfl)
     have hEl:=expR_len (c+1) ns (k:=ns.length+1) (Nat.le_refl _)
     have hol:o.length+s.out.length=ns.length+1:=by rw [<-List.length_append,hE];exact hEl
     have HE:=hide hE
     have HEl:=hide hEl
     have Htm:=hide htm
     clear ri ro hE hEl htm h1
     have hcase:((j:Int)<100 * ns.length+200)∨¬ ((j:Int)<100 * ns.length+200):=by omega
     rcases hcase with hx|hx
     all_goals
      go_wp2_with fail
      refine OB.out.mono ?_
      rintro e w7 ⟨va,vc,rfl,q7,r7⟩
      have ROW:=hide r7.row
      have Q7:=hide q7
      have GR:=hide (fun (v':Value) (w8:World) (r8:w8.ownsRow 0 3 1 v' (o.length+s.out.length) (o.map intV++s.out.map intV)) (g8:w7.grownBy w8 _) (b8:_)=>r7.grown r8 g8 b8)
      clear r7 q7 OB
      have hone:∀ u∈s.out.map intV,u.oneCell'=true:=fun u hu=>by
       obtain⟨z,_,rfl⟩:=List.mem_map.1 hu
       rfl
      have hlen:o.length+(s.out.map intV).length≤1000000000000:=by rw [List.length_map];omega
      have RT:=hide (fun (v':Value) (w8:World) (r8:RO w w8 lb C { s with out:=[] } v' (o++s.out))=>(show Calls Tryz.prog 28 #[.pointer (some ⟨lb,0,none⟩)] w8 fun e w'=>e=.returned (.int .i64 0)∧w'=w8 from Htm.out ▸ r8.time))
      go_wp2_with (at_builtin;refine wpList_appendRL Tryz.underlying36 intInfo' rfl (by decide) rfl _ _ rfl _ o.length (o.map intV) rfl ROW.out (.slice va s.out.length vc) (s.out.map intV) rfl Q7.out hone hlen ?_;intro v' w8 r8 g8 b8;rw [List.length_map] at r8;have np:=GR.out v' w8 r8 g8 b8;have TM:=hide (RT.out v' w8 np);rw [HE.out] at np;obtain⟨vb,cx,hv⟩:=np.slice;rw [HEl.out] at hv;subst hv;have NP:=hide np;clear r8 g8 b8 np)
      refine TM.out.mono ?_
      rintro e wx ⟨rfl,hw⟩
      have hw:=hw.symm
      subst hw
      clear TM RT GR ROW Q7 hone hlen hx HE
      go_wp2
      go_loopw [17] (fun i wr=>∃ q:Nat,q≤ns.length∧i=.int .i64 (q:Int)∧RO w wr lb C { s with out:=[] } (.slice vb (ns.length+1) cx) (expR (c+1) ns (ns.length+1))) (fun i _=>ns.length - (intOf i).toNat)
      case atStart=>exact⟨0,Nat.zero_le _,rfl,NP.out⟩
      case round =>
       clear NP
       obtain⟨q,hq,rfl,rq⟩:=hrel
       have RQ:=hide rq
       obtain⟨g1,o1,e1,c0⟩:=rq.rowIs.2 q (by rw [HEl.out];omega)
       subst e1
       rw [expR_at (c+1) ns (k:=q) (m:=ns.length+1) (by omega) (Nat.le_refl _),Nat.add_sub_cancel,FR.out] at c0
       unfold w64 at c0
       by_cases hlt:q<ns.length
       ·obtain⟨g2,o2,e2,c2⟩:=(rowI_below Hn.out rq.bel) q hlt
        subst e2
        have ex:numR ns q=ns.getD q 0:=by
         unfold numR
         rw [List.getD,List.getElem?_append_left hlt]
         rfl
        rw [ex] at c0
        generalize ns.getD q 0=y at *
        have hne:(wrap64 (y+(S:Int)) != wrap64 (y+(S:Int)))=false:=by simp
        have hqi:(q:Int)<ns.length:=by omega
        clear rq ex
        go_wp2
        go_big_quiet (fail)
        go_wp2
        go_roundw
        case rel=>exact⟨q+1,by omega,by go_num,RQ.out.drewN _⟩
        case measure=>simp [intOf];omega
       ·obtain rfl:q=ns.length:=by omega
        have ex:numR ns ns.length=77:=by
         unfold numR
         rw [List.getD,List.getElem?_append_right (Nat.le_refl _)]
         simp
        rw [ex,IntWalk.wrap64_in _ (by omega)] at c0
        have BL:=hide rq.bel
        clear rq ex hlt hq
        have hee:((77:Int)+(S:Int) == 77+(S:Int))=true:=by simp
        go_wp2
        go_ret
        exact⟨rfl,BL.out⟩
end Go.Proofs.YtnhidaamfnjdjaaGreatDoor
