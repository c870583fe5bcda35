import Derived.Test.YtnhidaamfnjdjaaGreatDoorZPieD
namespace Go.Proofs.YtnhidaamfnjdjaaGreatDoor
open Go.RowKit Go.Maps
set_option maxRecDepth 20000 in
set_option maxHeartbeats 8000000 in
theorem Pieces_any (w:World) (m0:Int) (hm:w.cell? ⟨0,0,none⟩=some (.int .i64 m0)) (oa:Option Addr) (ba offa ca:Nat) (zs:List Int) (hl:zs.length≤9223372036854775807) (hoa:0<zs.length->oa=some ⟨ba,offa,none⟩) (hcl:∀ j,j<zs.length->w.cell? ⟨ba,offa+j,none⟩=some (.int .i64 (zs.getD j 0))) (hz:∀ z∈zs,-9223372036854775808≤z∧z≤9223372036854775807)
  (ob:Option Addr) (cb:Nat) (ns:List Int) (hnl:ns.length≤17600000000000) (hn:RowI w ob ns) (oc:Option Addr) (cc:Nat) (ss:List Int) (hsl:ss.length≤17600000000000) (hs:RowI w oc ss) (hsz:∀ z∈ss,-9223372036854775808≤z∧z≤9223372036854775807) (most:Int) (hmost:-9223372036854775808≤most∧most≤9223372036854775807) :
  Calls Tryz.prog 9 #[.slice oa zs.length ca,.slice ob ns.length cb,.slice oc ss.length cc,.int .i64 most] w fun e w'=>e=.returned (.bool true)∧Below w.heap.size w w':=by
 have B:=hide (bag_any w oa ba offa ca zs hl hoa hcl hz)
 obtain⟨T,C,n,r,r1,r2,kk,wk,bm,load⟩:=bag_machine (rsOf zs) (rsOf_okP zs)
 have hk:=pickG_lt most 300 (by decide)
 generalize ek:pickG most 300=k at *
 have P1:=hide (pick_at most hmost.1 hmost.2 300 (by decide) (by decide) 300 rfl k ek k rfl)
 obtain⟨na,sa,Na,fa,hrun,ma,hna0,hna1,hNa,hra,hsta,RunA⟩:=(fed_mch bm ns).run bm hnl (steps:=(k:Int)) (by omega) (by omega)
 have hao:=ma.outs
 obtain⟨SA,hSA⟩:∃ x,sa.stands=x:=⟨_,rfl⟩
 rw [hSA] at RunA
 have L:=hide (fun (w1:World) (h1:w1.cell? ⟨0,0,none⟩=some (.int .i64 m0))=>load _ rfl w1 m0 h1)
 have hm1:=hide (fun (w1:World) (b:Below w.heap.size w w1)=>(World.cell?_of_block (b.block 0 (cell_lt hm))).trans hm)
 have Hm:=hide hm
 have Hn:=hide hn
 have Hs:=hide hs
 have BM:=hide bm
 have RA:=hide RunA
 have FM:=hide (fun j (_:j≤ns.length)=>fed_mch bm (ns.take j))
 have HR:=hide hrun
 have FR:=hide (fed_rests bm ns)
 have FK:=hide (fed_mch bm ns)
 have Hsz:=hide hsz
 clear load hm hn hs hsz bm RunA hrun hl hoa hcl hz ek hmost hra hsta ma
 generalize textI (bagI (rsOf zs))=tx at *
 go_enter Tryz.func9,Tryz.ntmps9
 go_wp2_with fail
 refine B.out.mono ?_
 rintro e wx ⟨rfl,hw⟩
 have hw:=hw.symm
 subst hw
 go_wp2_with fail
 refine (L.out _ Hm.out).mono ?_
 rintro e w1 ⟨la,xa,ρa,Va,rfl,la0,sh1,b1,j1⟩
 have SH:=hide sh1
 have B1:=hide b1
 have J1:=hide j1
 clear sh1 b1 j1
 go_wp2_with fail
 refine (L.out _ (hm1.out _ B1.out)).mono ?_
 rintro e w2 ⟨lb,xb,ρb,Vb,rfl,lb0,sh2,b2,j2⟩
 have HP:=hide (PO.new SH.out la0 B1.out J1.out sh2 lb0 b2 j2)
 clear sh2 b2 j2 SH B1 J1 la0 lb0 L B
 go_wp2
 go_loopw [12] (fun i wr=>∃ j:Nat,j≤ns.length∧i=.int .i64 j∧PO w wr la lb C (fedS C (ns.take j)) (fedS C (ns.take j)) (.slice none 0 0) []) (fun i _=>ns.length - (intOf i).toNat)
 case atStart=>exact⟨0,Nat.zero_le _,rfl,HP.out⟩
 case round =>
  clear HP
  obtain⟨j,hj,rfl,po⟩:=hrel
  by_cases hlt:j<ns.length
  ·obtain⟨g,off,rfl,c1⟩:=(Hn.out.below po.bel) j hlt
   have F1:=hide (po.swap.feed BM.out (FM.out j hj) (by omega) (by rw [List.length_take];omega) (ns.getD j 0))
   have C2:=hide (fun (w3:World) (b:Below w.heap.size w w3)=>(Hn.out.below b).at hlt)
   have F2:=hide (fun (w3:World) (p:PO w w3 la lb C ((fedS C (ns.take j)).send 1 (ns.getD j 0)).2 (fedS C (ns.take j)) (.slice none 0 0) [])=>p.feed BM.out (FM.out j hj) (by omega) (by rw [List.length_take];omega) (ns.getD j 0))
   have EE:=hide (fed_more C ns hlt)
   have hji:(j:Int)<ns.length:=by omega
   clear po
   generalize ns.getD j 0=x at *
   go_wp2_with fail
   refine F1.out.mono ?_
   rintro e w3 ⟨rfl,p3⟩
   have p3:=p3.swap
   have c3:=C2.out w3 p3.bel
   have P3:=hide p3
   clear p3
   go_wp2_with fail
   refine (F2.out _ P3.out).mono ?_
   rintro e w4 ⟨rfl,p4⟩
   have P4:=hide p4
   clear p4
   go_wp2
   go_roundw
   case rel=>exact⟨j+1,by omega,by go_num,by rw [EE.out];exact P4.out⟩
   case measure=>simp [intOf];omega
  ·obtain rfl:j=ns.length:=by omega
   rw [List.take_length] at po
   have PA:=hide (po.swap.call (fun mb ρ V s=>RA.out la mb ρ V _ s))
   clear po RA FM
   go_wp2_with fail
   refine (P1.out _).mono ?_
   rintro e wx ⟨rfl,hw⟩
   have hw:=hw.symm
   subst hw
   go_wp2_with fail
   refine PA.out.mono ?_
   rintro e w5 ⟨rfl,p5⟩
   have P5:=hide p5.swap
   clear p5 PA
   go_wp2
   go_loopw [16,17,18,19] (fun xm xo xv xi wr=>∃ (i:Nat) (mm oo:Int),xi=.int .i64 i∧xm=.int .i64 mm∧xo=.int .i64 oo∧(i:Int)≤2 * k+2∧PcI w wr la lb T C n r r1 r2 kk wk ns.length k na sa i mm oo xv) (fun _ _ _ xi _=>(2 * k+2) - (intOf xi).toNat)
   case atStart =>
    refine⟨0,0,1,rfl,rfl,rfl,by omega,⟨fedS C ns,[],0,P5.out,piece_start HR.out,FK.out,(FR.out).1,(FR.out).2,by omega,by omega,by omega,.inl ⟨rfl,rfl⟩,fun h=>by omega⟩,by omega⟩
   case round =>
    clear P5 P1
    obtain⟨i,mm,oo,rfl,rfl,rfl,hi,pc⟩:=hrel
    have hm0:0≤mm∧mm≤k∧(i=0->oo=1):=by
     obtain⟨sb,o,N,_,_,_,_,_,h1,h2,h3,h4,_⟩:=pc.ex
     exact⟨h2,h3,fun e=>by omega⟩
    obtain⟨hm0,hmk,hi0⟩:=hm0
    obtain⟨sb0,o0,N0,po0,rest0⟩:=pc.ex
    have bel:=po0.bel
    clear po0 rest0
    by_cases hgo:(i:Int)<2 * k+2∧mm<k∧oo=1
    ·obtain⟨g1,g2,rfl⟩:=hgo
     by_cases hsz:0<ss.length∧i<k
     ·have hmod:i % ss.length<ss.length:=Nat.mod_lt _ hsz.1
      obtain⟨g,off,rfl,c1⟩:=(Hs.out.below bel) (i % ss.length) hmod
      have hxr:=Hsz.out (ss.getD (i % ss.length) 0) (by rw [getD_lt _ _ _ hmod];exact List.getElem_mem hmod)
      generalize ss.getD (i % ss.length) 0=x at *
      have hc9:=pickG_lt x 9 (by decide)
      generalize ec:pickG x 9=c at *
      have P9:=hide (pick_at x hxr.1 hxr.2 9 (by decide) (by decide) 9 rfl c ec c rfl)
      obtain⟨d,other,sb,o,d0,d1,hol,rb,nxt⟩:=pc.round BM.out hnl hk g2 (c:Int) (by omega) (fun h=>by omega)
      have RB:=hide rb
      have NX:=hide nxt
      clear rb nxt pc hxr ec bel
      have hs1:(0:Int)<ss.length:=by omega
      have hik:(i:Int)<k:=by omega
      have hmi:((i:Int).tmod ss.length)=((i % ss.length:Nat):Int):=by rw [Int.tmod_eq_emod_of_nonneg (by omega)];rfl
      generalize hq:i % ss.length=q at *
      go_wp2_with fail
      refine (P9.out _).mono ?_
      rintro e wx ⟨rfl,hw⟩
      have hw:=hw.symm
      subst hw
      clear P9 c1
      go_wp2_with fail
      refine RB.out.mono ?_
      rintro e w6 ⟨rfl,p6⟩
      have OB:=hide (p6.out sb.out rfl)
      clear p6 RB
      go_wp2_with fail
      refine OB.out.mono ?_
      rintro e w7 ⟨va,vc,rfl,q7,p7⟩
      have ROW:=hide p7.row
      have Q7:=hide q7
      have GR:=hide (fun (v':Value) (w8:World) (r8:w8.ownsRow 0 3 1 v' (o.length+sb.out.length) (o.map intV++sb.out.map intV)) (g8:w7.grownBy w8 _) (b8:_)=>NX.out w8 v' (p7.grown r8 g8 b8))
      clear p7 q7 OB NX
      have hone:∀ u∈sb.out.map intV,u.oneCell'=true:=fun u hu=>by
       obtain⟨z,_,rfl⟩:=List.mem_map.1 hu
       rfl
      have hlen:o.length+(sb.out.map intV).length≤1000000:=by rw [List.length_map];exact hol
      go_wp2_with (at_builtin;refine wpList_appendR Tryz.underlying36 intInfo' rfl (by decide) rfl _ _ rfl _ o.length (o.map intV) rfl ROW.out (.slice va sb.out.length vc) (sb.out.map intV) rfl Q7.out hone hlen ?_;intro v' w8 r8 g8 b8;rw [List.length_map] at r8;have NP:=hide (GR.out v' w8 r8 g8 b8);clear r8 g8 b8)
      go_roundw
      case rel=>exact⟨i+1,mm+d,other,by go_num,rfl,rfl,by omega,NP.out⟩
      case measure=>simp [intOf];omega
     ·have hcase:ss.length=0∨(0<ss.length∧k≤i):=by omega
      obtain⟨d,other,sb,o,d0,d1,hol,rb,nxt⟩:=pc.round BM.out hnl hk g2 1 (by decide) (fun _=>rfl)
      have RB:=hide rb
      have NX:=hide nxt
      clear rb nxt pc bel hsz
      rcases hcase with hs0|⟨hs1,hs2⟩
      case' inl =>
       have hs0':(ss.length:Int)≤0:=by omega
       clear hs0
      case' inr =>
       have hs1':(0:Int)<ss.length:=by omega
       have hs2':(k:Int)≤i:=by omega
      all_goals
       go_wp2_with fail
       refine RB.out.mono ?_
       rintro e w6 ⟨rfl,p6⟩
       have OB:=hide (p6.out sb.out rfl)
       clear p6 RB
       go_wp2_with fail
       refine OB.out.mono ?_
       rintro e w7 ⟨va,vc,rfl,q7,p7⟩
       have ROW:=hide p7.row
       have Q7:=hide q7
       have GR:=hide (fun (v':Value) (w8:World) (r8:w8.ownsRow 0 3 1 v' (o.length+sb.out.length) (o.map intV++sb.out.map intV)) (g8:w7.grownBy w8 _) (b8:_)=>NX.out w8 v' (p7.grown r8 g8 b8))
       clear p7 q7 OB NX
       have hone:∀ u∈sb.out.map intV,u.oneCell'=true:=fun u hu=>by
        obtain⟨z,_,rfl⟩:=List.mem_map.1 hu
        rfl
       have hlen:o.length+(sb.out.map intV).length≤1000000:=by rw [List.length_map];exact hol
       go_wp2_with (at_builtin;refine wpList_appendR Tryz.underlying36 intInfo' rfl (by decide) rfl _ _ rfl _ o.length (o.map intV) rfl ROW.out (.slice va sb.out.length vc) (sb.out.map intV) rfl Q7.out hone hlen ?_;intro v' w8 r8 g8 b8;rw [List.length_map] at r8;have NP:=hide (GR.out v' w8 r8 g8 b8);clear r8 g8 b8)
       go_roundw
       case rel=>exact⟨i+1,mm+d,other,by go_num,rfl,rfl,by omega,NP.out⟩
       case measure=>simp [intOf];omega
    ·have hx:2 * (k:Int)+2≤i∨(k:Int)≤mm∨(oo≠1∧i≠0):=by omega
     obtain⟨e1,e2,sb,o,S,hS,s1,s2,t1,o1,ol,⟨vb,vc,rfl⟩,r0⟩:=pc.done BM.out hnl hk hx
     subst e1
     rw [hSA] at s2
     subst s2
     have R0:=hide r0
     have Ht:=hide t1
     have Ho:=hide o1
     clear r0 t1 o1 pc bel s1
     have hcase:(2 * (k:Int)+2≤i)∨((i:Int)<2 * k+2∧(k:Int)≤na)∨((i:Int)<2 * k+2∧na<k∧oo≠1∧(i:Int)≠0):=by omega
     clear hx hgo hi0
     rcases hcase with hx|⟨hx,hx2⟩|⟨hx,hx2,hx3,hx4⟩
     case' inr.inr =>
      have b1:(oo == 1)=false:=by simp [hx3]
      have b2:((i:Int) == 0)=false:=by simp;omega
     all_goals
      go_wp2_with fail
      refine R0.out.mono ?_
      rintro e w6 ⟨rfl,p6⟩
      have OA:=hide (p6.swap.out o Ho.out)
      clear p6
      go_wp2_with fail
      refine OA.out.mono ?_
      rintro e w7 ⟨va,vd,rfl,q7,p7⟩
      have SM:=hide (same_true w7 va vb vd vc o (by omega) (RowI.of q7) p7.rowIs.2 o.length rfl)
      have P7:=hide p7
      clear p7 q7 OA
      go_wp2_with fail
      refine SM.out.mono ?_
      rintro e w8 ⟨rfl,jj,hw8⟩
      have p8:=P7.out.drewN jj
      rw [<-hw8] at p8
      have TA:=hide (p8.time)
      have TB:=hide (p8.swap.time)
      have BL:=hide p8.bel
      clear p8 P7 SM hw8
      go_wp2_with fail
      refine TA.out.mono ?_
      rintro e wx ⟨rfl,hw⟩
      have hw:=hw.symm
      subst hw
      go_wp2_with fail
      refine TB.out.mono ?_
      rintro e wx ⟨rfl,hw⟩
      have hw:=hw.symm
      subst hw
      have ht:=Ht.out
      have hte:(sa.time == sb.time)=true:=by simp [ht]
      clear TA TB ht
      go_wp2
      have hfin:(SA != 2&&SA != 5)=true:=by rcases hS with rfl|rfl|rfl <;> rfl
      go_ret
      exact⟨congrArg (fun z=>Ending.returned (Value.bool z)) hfin,BL.out⟩
end Go.Proofs.YtnhidaamfnjdjaaGreatDoor
