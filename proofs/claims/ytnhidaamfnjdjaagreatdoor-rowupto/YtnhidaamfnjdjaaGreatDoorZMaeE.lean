import Derived.Test.YtnhidaamfnjdjaaGreatDoorZMaeB
import Derived.Test.YtnhidaamfnjdjaaGreatDoorZMacZ
namespace Go.Proofs.YtnhidaamfnjdjaaGreatDoor
open Go.RowKit Go.Maps
theorem slps_take (V:MV):∀ (l:List (Int×Int×Nat)) (n:Nat),(V.slps l).take (n * 3)=V.slps (l.take n)
 | [],n=>by simp [MV.slps]
 | x :: l,0=>by simp [MV.slps]
 | x :: l,n+1=>by
  rw [List.take_succ_cons,slps_cons,slps_cons,List.take_append]
  have e:(n+1) * 3 - (slV V x).length=n * 3:=by show _ - 3=_;omega
  rw [e,slps_take V l n,List.take_of_length_le (by show 3≤_;omega)]
theorem row_cut {w:World} {e:TypeId} {size g n cap m:Nat} {xs:List Value} (h:w.ownsRow 0 e size (.slice (some ⟨g,0,none⟩) n cap) n xs) (hm:m≤n):w.ownsRow 0 e size (.slice (some ⟨g,0,none⟩) m cap) m (xs.take (m * size)):=by
 have hms:m * size≤n * size:=Nat.mul_le_mul_right _ hm
 refine⟨by rw [List.length_take,h.1];omega,?_⟩
 rcases h.2 with ⟨hv,_⟩|⟨g',cap',cur,hv,h0,hg,h1,h2,h3,h4⟩
 ·simp at hv
 ·simp only [Value.slice.injEq,Option.some.injEq,Addr.mk.injEq,and_true,true_and] at hv
  obtain⟨rfl,rfl⟩:=hv
  refine .inr ⟨g,cap,cur,rfl,h0,hg,by omega,h2,h3,?_⟩
  rw [<-h4,List.take_take,Nat.min_eq_left hms]
section
variable {mb : Nat} {ρ : Nat → MR} {C : CM} {V : MV} {s : MS}
set_option maxRecDepth 20000 in
set_option maxHeartbeats 4000000 in
theorem slPop_any (n:Nat) (hn:s.asleep.length=n+1) (w:World) (h:MsAt w mb ρ C V s) (hl:s.asleep.length≤1000000000000) :
  Calls Tryz.prog 294 #[.pointer (some ⟨mb,8,none⟩)] w fun e w'=>e=.returned (slIf V (s.asleep.getD n (0,0,0)))∧MsPost mb C ρ V w { s with asleep:=s.asleep.take n } w':=by
 obtain⟨g,cap,hv,h1,h2,hc,hz,hg,hgl⟩:=mslp_at h (i:=n) (by omega)
 obtain⟨i0,i1,i2⟩:=hc n (by omega)
 have c8:=mslp_cell h
 have z8:∀ i,w.frozen? ⟨mb,i,none⟩=false:=fun i=>frozen_at (h.blk (fun x=>x)) i
 rw [hv] at c8
 have hmb:=h.rb.2
 have fin:∀ O,MsPost mb C ρ V w { s with asleep:=s.asleep.take n } ((w.setCell ⟨mb,8,none⟩ (.slice (some ⟨g,0,none⟩) n cap)).alloc O):=by
  intro O
  have hgm:g≠mb:=fun e=>by rw [e,h.rb.1] at hg;cases hg
  have fr:MsFr (Two .slp) ρ ρ w (w.setCell ⟨mb,8,none⟩ (.slice (some ⟨g,0,none⟩) n cap)):=by
   refine⟨rfl,rfl,rfl,by simp,fun k hk hA=>⟨?_,rfl⟩⟩
   rw [Below.heap_setCell _ _ _ _ (fun e=>hA (.inl (by have:k=mb:=e;rw [this];exact h.rb.1)))]
  have q:=(h.slp (fun x=>x)).1
  rw [hv,hn] at q
  have q2:=row_cut q (m:=n) (by omega)
  rw [slps_take] at q2
  have r:=mslp_new h fr h.rb.1 (at_setCell (h.blk (fun x=>x)) 8 (.slice (some ⟨g,0,none⟩) n cap)) (l':=s.asleep.take n) (by
   rw [List.length_take,hn,Nat.min_eq_left (by omega)]
   exact ownsRow_frame q2 (fun k hk=>Below.heap_setCell _ _ _ _ (fun e=>hgm (by have e1:k=mb:=e;have e2:some g=some k:=hk;injection e2 with e2;omega)))) (by
   intro k hk
   have e2:some g=some k:=hk
   injection e2 with e2
   rw [<-e2];exact hg)
  have r2:=r.1.low ((Below.refl _ _).alloc (Nat.le_refl _) O)
  exact⟨_,_,r2.1,r.2.trans r2.2⟩
 have Fin:=hide fin
 clear fin h hc hv hg
 rw [hn] at c8 h1 hl
 unfold slIf
 unfold MV.ptr ptrB intV
 unfold MV.ptr ptrB at i2
 clear hn
 generalize s.asleep.getD n (0,0,0)=x at *
 generalize V.pb.getD x.2.2 0=pb at *
 generalize { s with asleep:=s.asleep.take n }=s2 at *
 have hn1:((n+1:Nat):Int) - 1=(n:Int):=by omega
 have hn2:(n:Int)<((n+1:Nat):Int):=by omega
 go_enter Tryz.func294,Tryz.ntmps294
 go_wp2_with fail
 go_ret
 exact⟨rfl,Fin.out _⟩
set_option maxRecDepth 20000 in
set_option maxHeartbeats 4000000 in
theorem hPush_any (x:Int×Int×Nat) (w:World) (h:MsAt w mb ρ C V s) (hl:s.asleep.length+1≤1000000000000) :
  Calls Tryz.prog 197 #[slI mb,slIf V x] w fun e w'=>e=.returned (.tuple #[])∧MsPost mb C ρ V w { s with asleep:=pushF' x s.asleep } w':=by
 have P:=hide (slPush_any x w h hl)
 have mp:=mth_push mb
 have after:∀ w2,MsPost mb C ρ V w { s with asleep:=s.asleep++[x] } w2->∃ (a:Option Addr) (c:Nat),w2.cell? ⟨mb,8,none⟩=some (.slice a (s.asleep.length+1) c)∧Calls Tryz.prog 217 #[slI mb,.int .i64 (s.asleep.length:Int)] w2 fun e w'=>e=.returned (.tuple #[])∧MsPost mb C ρ V w { s with asleep:=pushF' x s.asleep } w':=by
  rintro w2 ⟨ρ2,V2,k2,g2⟩
  obtain⟨a,c,hv⟩:=ownsRow_len (k2.slp (fun x=>x)).1
  have hlen:(s.asleep++[x]).length=s.asleep.length+1:=by simp
  refine⟨a,c,?_,(hup_any (s:={ s with asleep:=s.asleep++[x] }) s.asleep.length (by show _<(s.asleep++[x]).length;omega) w2 k2 (by show (s.asleep++[x]).length≤_;omega)).mono ?_⟩
  ·rw [mslp_cell k2,hv]
   show some (Value.slice a (s.asleep++[x]).length c)=_
   rw [hlen]
  ·rintro e w' ⟨rfl,k3,g3⟩
   exact⟨rfl,ρ2,V2,k3,g2.trans g3⟩
 have Af:=hide after
 clear after h
 have Ml:=hide (mth_len mb)
 unfold slI at *
 generalize s.asleep.length=n at *
 generalize { s with asleep:=pushF' x s.asleep }=s3 at *
 generalize { s with asleep:=s.asleep++[x] }=s2 at *
 generalize slIf V x=xv at *
 go_enter Tryz.func197,Tryz.ntmps197
 go_wp2_with (first
  | (go_at_call 295;refine P.out.mono ?_;rintro e w2 ⟨rfl,p2⟩;obtain⟨a,c,c8,up⟩:=Af.out w2 p2;have ml:=Ml.out _ w2 c8;have Up:=hide up;clear up p2 P)
  | (go_at_call 291;refine (slLen_any _ _ _ _).mono ?_;rintro e w3 ⟨rfl,rfl⟩)
  | (go_at_call 217;refine Up.out.mono ?_;rintro e w4 ⟨rfl,p4⟩))
 go_end0
 exact⟨rfl,p4⟩
set_option maxRecDepth 20000 in
set_option maxHeartbeats 4000000 in
theorem hPop_any (n:Nat) (hn:s.asleep.length=n+1) (w:World) (h:MsAt w mb ρ C V s) (hl:s.asleep.length≤1000000000000) :
  Calls Tryz.prog 169 #[slI mb] w fun e w'=>e=.returned (slIf V (popF s.asleep).1)∧MsPost mb C ρ V w { s with asleep:=(popF s.asleep).2 } w':=by
 obtain⟨a,c,hv⟩:=ownsRow_len (h.slp (fun x=>x)).1
 have c8:=mslp_cell h
 have S:=slSwap_any w h 0 n (by omega) (by omega)
 rw [hv,hn] at c8 S
 have after:∀ w2,MsAt w2 mb ρ C V { s with asleep:=slSwap s.asleep 0 n }∧MsGo V V ρ ρ w w2->Calls Tryz.prog 198 #[slI mb,.int .i64 0,.int .i64 n] w2 fun e w3=>IsB e∧Calls Tryz.prog 294 #[.pointer (some ⟨mb,8,none⟩)] w3 fun e w'=>e=.returned (slIf V (popF s.asleep).1)∧MsPost mb C ρ V w { s with asleep:=(popF s.asleep).2 } w':=by
  rintro w2 ⟨k2,g2⟩
  have e1:(slSwap s.asleep 0 n).length=n+1:=by rw [swap_len,hn]
  refine (hdown_any (s:={ s with asleep:=slSwap s.asleep 0 n }) n (by show n≤(slSwap s.asleep 0 n).length;omega) w2 k2 (by show (slSwap s.asleep 0 n).length≤_;omega)).mono ?_
  rintro e w3 ⟨he,k3,g3⟩
  refine⟨he,?_⟩
  have e2:(downF n 0 n (slSwap s.asleep 0 n)).length=n+1:=by rw [downF_len,e1]
  have e3:popF s.asleep=((downF n 0 n (slSwap s.asleep 0 n)).getD n (0,0,0),(downF n 0 n (slSwap s.asleep 0 n)).take n):=by
   unfold popF
   rw [hn,Nat.add_sub_cancel,downF_fuel (n+1) n 0 n _ (by omega) (by omega)]
  rw [e3]
  refine (slPop_any (s:={ s with asleep:=downF n 0 n (slSwap s.asleep 0 n) }) n e2 w3 k3 (by show (downF n 0 n (slSwap s.asleep 0 n)).length≤_;omega)).mono ?_
  rintro e w4 ⟨rfl,ρ4,V4,k4,g4⟩
  exact⟨rfl,ρ4,V4,k4,(g2.trans g3).trans g4⟩
 have Af:=hide after
 have S:=hide S
 clear after h hv
 have ml:=mth_len mb (.slice a (n+1) c)
 have ms:=mth_swap mb (.slice a (n+1) c)
 have ml1:=ml w c8
 have ms1:=ms w c8
 have mp:=mth_pop mb
 clear ml ms
 rw [hn] at hl
 clear hn
 unfold slI at *
 generalize { s with asleep:=(popF s.asleep).2 }=s3 at *
 generalize slIf V (popF s.asleep).1=xv at *
 have hn1:((n+1:Nat):Int) - 1=(n:Int):=by omega
 go_enter Tryz.func169,Tryz.ntmps169
 go_wp2_with (first
  | (go_at_call 291;refine (slLen_any _ _ _ _).mono ?_;rintro e w3 ⟨rfl,hw⟩;have hw:=hw.symm;subst hw)
  | (go_at_call 293;refine S.out.mono ?_;rintro e w2 ⟨rfl,k2⟩;have D:=hide (Af.out _ k2);clear k2)
  | (go_at_call 198;refine D.out.mono ?_;rintro e w3 ⟨⟨bb,rfl⟩,pp⟩;have Po:=hide pp;clear pp)
  | (go_at_call 294;refine Po.out.mono ?_;rintro e w4 ⟨rfl,p4⟩;have P4:=hide p4;clear p4))
 go_ret
 exact⟨rfl,P4.out⟩
end
end Go.Proofs.YtnhidaamfnjdjaaGreatDoor
namespace Go.Proofs.YtnhidaamfnjdjaaGreatDoor
open Go.RowKit Go.Maps
section
variable {mb : Nat} {ρ : Nat → MR} {C : CM} {V : MV} {s : MS}
set_option maxRecDepth 20000 in
set_option maxHeartbeats 4000000 in
theorem mfall_any (p:Nat) (n:Int) (hn0:0<n) (hn1:n≤1000000) (t0:0≤s.time) (t1:s.time<9000000000000000000) (o0:0≤s.slept) (o1:s.slept<1000000000000) (w:World) (h:MsAt w mb ρ C V s) (hl:s.asleep.length+1≤1000000000000) :
  Calls Tryz.prog 166 #[.pointer (some ⟨mb,0,none⟩),V.ptr p,.int .i64 n] w fun e w'=>e=.returned (.tuple #[])∧MsPost mb C ρ V w { s with asleep:=pushF' (s.time+n,s.slept,p) s.asleep,slept:=s.slept+1 } w':=by
 have c9:w.cell? ⟨mb,9,none⟩=some (.int .i64 s.slept):=cell_at (h.blk (fun x=>x)) 9
 have c10:w.cell? ⟨mb,10,none⟩=some (.int .i64 s.time):=cell_at (h.blk (fun x=>x)) 10
 have P:Hid (∀ wx,Below w.heap.size w wx->Calls Tryz.prog 197 #[slI mb,slIf V (s.time+n,s.slept,p)] wx fun e w'=>e=.returned (.tuple #[])∧MsPost mb C ρ V w { s with asleep:=pushF' (s.time+n,s.slept,p) s.asleep } w'∧w'.cell? ⟨mb,10,none⟩=some (.int .i64 s.time)∧w'.cell? ⟨mb,9,none⟩=some (.int .i64 s.slept)∧(∀ i,w'.frozen? ⟨mb,i,none⟩=false)):=hide (by
  intro wx b
  obtain⟨kx,gx⟩:=h.low b
  refine (hPush_any _ wx kx hl).mono ?_
  rintro e w' ⟨rfl,ρ',V',k',g'⟩
  exact⟨rfl,⟨ρ',V',k',gx.trans g'⟩,cell_at (k'.blk (fun x=>x)) 10,cell_at (k'.blk (fun x=>x)) 9,mfroz k'⟩)
 have Fin:Hid (∀ w1,MsPost mb C ρ V w { s with asleep:=pushF' (s.time+n,s.slept,p) s.asleep } w1->MsPost mb C ρ V w { s with asleep:=pushF' (s.time+n,s.slept,p) s.asleep,slept:=s.slept+1 } (w1.setCell ⟨mb,9,none⟩ (.int .i64 (s.slept+1)))):=hide (by
  rintro w1 ⟨ρ1,V1,k1,g1⟩
  obtain⟨k2,g2⟩:=mset (V':=V1) (s':={ s with asleep:=pushF' (s.time+n,s.slept,p) s.asleep,slept:=s.slept+1 }) k1 9 (.int .i64 (s.slept+1)) rfl ((MsIf.strip k1).scal rfl s.cur (s.slept+1) s.time s.ended s.faulty)
  exact⟨ρ1,V1,k2,g1.trans g2⟩)
 clear h
 unfold slI slIf intV at P
 unfold MV.ptr ptrB at *
 generalize { s with asleep:=pushF' (s.time+n,s.slept,p) s.asleep }=s2 at *
 generalize { s with asleep:=pushF' (s.time+n,s.slept,p) s.asleep,slept:=s.slept+1 }=s3 at *
 generalize V.pb.getD p 0=pb at *
 generalize s.time=tm at *
 generalize s.slept=sl at *
 have P2:=hide (P.out w.drew ⟨rfl,rfl,rfl,Nat.le_refl _,fun _ _=>rfl⟩)
 dsimp only at P2
 clear P
 go_enter Tryz.func166,Tryz.ntmps166
 go_wp2_with fail
 have hw1:IntKind.i64.wrap (tm+n)=tm+n:=by rw [IntKind.wrap_i64];omega
 go_region_held3 (fun w'=>w'.cell? ⟨mb,10,none⟩=some (.int .i64 tm)∧w'.cell? ⟨mb,9,none⟩=some (.int .i64 sl)) (first|exact⟨c10,c9⟩|exact⟨q10,q9⟩) ((go_at_call 197;with_reducible refine P2.out.mono ?_;rintro e w1 ⟨rfl,p1,q10,q9,zz⟩;have P1:=hide p1;clear p1))
 clear c9 c10
 go_wp2_with fail
 go_end0
 exact⟨rfl,Fin.out _ P1.out⟩
end
end Go.Proofs.YtnhidaamfnjdjaaGreatDoor
namespace Go.Proofs.YtnhidaamfnjdjaaGreatDoor
open Go.RowKit Go.Maps
section
variable {mb : Nat} {ρ : Nat → MR} {C : CM} {V : MV} {s : MS}
set_option maxRecDepth 20000 in
set_option maxHeartbeats 4000000 in
theorem msleep_any {p:Nat} {x:PPr} (hc:s.cur=some p) (hp:s.procs[p]?=some x) (l:List Int) (n:Int) (hs:s.stack=l++[n]) (t0:0≤s.time) (t1:s.time<9000000000000000000) (o0:0≤s.slept) (o1:s.slept<1000000000000) (a:Int) (w:World) (h:MsAt w mb ρ C V s) (hn:l.length≤1000000000000) (hl:s.asleep.length+1≤1000000000000) :
  Calls Tryz.prog 100 #[.pointer (some ⟨mb,0,none⟩),.int .i64 a] w fun e w'=>e=.returned (.tuple #[])∧MsPost mb C ρ V w (if n > 1000000 then s.pop.fault else if n > 0 then ({ s.pop with asleep:=pushF' (s.time+n,s.slept,p) s.asleep,slept:=s.slept+1 }:MS).wait p 1 else s.pop) w':=by
 have T:=hide (mtake_st l n hs w h hn)
 have Fl:=hide (fun w V (h:MsAt w mb ρ C V s.pop)=>mfault_any (s:=s.pop) w h)
 have Cu:=hide (fun w V (h:MsAt w mb ρ C V s.pop)=>mcur_cell (s:=s.pop) h)
 have Go:=hide (fun (w1:World) (V1:MV) (h:MsAt w1 mb ρ C V1 s.pop) (f:MsGo V V1 ρ ρ w w1) (g0:0<n) (g1:n≤1000000)=>(mfall_any (s:=s.pop) p n g0 g1 t0 t1 o0 o1 w1 h hl).mono (R':=fun e w'=>e=.returned (.tuple #[])∧∃ pb,w'.cell? ⟨mb,5,none⟩=some (.pointer (some ⟨pb,0,none⟩))∧Calls Tryz.prog 160 #[.pointer (some ⟨mb,0,none⟩),.func (.func 161) #[.pointer (some ⟨pb,0,none⟩)] #[]] w' fun e w''=>e=.returned (.tuple #[])∧MsPost mb C ρ V w (({ s.pop with asleep:=pushF' (s.time+n,s.slept,p) s.asleep,slept:=s.slept+1 }:MS).wait p 1) w'') (by
  rintro e w2 ⟨rfl,ρ2,V2,k2,g2⟩
  refine⟨rfl,V2.pb.getD p 0,?_,?_⟩
  ·have:=mcur_cell k2
   rw [show ({ s.pop with asleep:=pushF' (s.pop.time+n,s.pop.slept,p) s.pop.asleep,slept:=s.pop.slept+1 }:MS).cur=some p from hc] at this
   exact this
  ·refine (mwait_any (s:={ s.pop with asleep:=pushF' (s.pop.time+n,s.pop.slept,p) s.pop.asleep,slept:=s.pop.slept+1 }) hc hp 1 (.inl rfl) w2 k2).mono ?_
   rintro e w3 ⟨rfl,k3,g3⟩
   exact⟨rfl,ρ2,V2,k3,(f.trans g2).trans g3⟩))
 have hcp:s.pop.cur=some p:=hc
 have Pt:=hide (fun V1:MV=>(rfl:V1.ptr p=.pointer (some ⟨V1.pb.getD p 0,0,none⟩)))
 by_cases h1:n > 1000000
 ·rw [if_pos h1]
  clear h hs hc hp Go
  go_enter Tryz.func100,Tryz.ntmps100
  go_wp2_with (first|(go_at_call 159;refine T.out.mono ?_;rintro e w1 ⟨rfl,v1,k1,f1⟩;have K1:=hide k1;have F1:=hide f1;clear k1 f1)|(go_at_call 157;refine (Fl.out _ _ K1.out).mono ?_;rintro e w2 ⟨rfl,p2⟩;obtain⟨ρ2,V2,k2,f2⟩:=p2;have K2:=hide k2;have F2:=hide (F1.out.trans f2);clear k2 f2))
  try simp only [Exit.inBlock,Exit.then]
  refine bodyPost_ret (results_none rfl _ _ _) rfl ?_
  exact⟨rfl,_,_,K2.out,F2.out⟩
 ·rw [if_neg h1]
  by_cases h2:n > 0
  ·rw [if_pos h2]
   have Cp:Hid (∀ (w1:World) (V1:MV),MsAt w1 mb ρ C V1 s.pop->w1.cell? ⟨mb,5,none⟩=some (.pointer (some ⟨V1.pb.getD p 0,0,none⟩))):=hide (fun w1 V1 h=>by
    have:=mcur_cell h
    rw [hcp] at this
    exact this)
   clear h hs hc hp hcp Cu
   have h3:n≤1000000:=by omega
   generalize (({ s.pop with asleep:=pushF' (s.time+n,s.slept,p) s.asleep,slept:=s.slept+1 }:MS).wait p 1)=s3 at *
   go_enter Tryz.func100,Tryz.ntmps100
   go_wp2_with (first
    | (go_at_call 159;refine T.out.mono ?_;rintro e w1 ⟨rfl,v1,k1,f1⟩;have c5:=Cp.out _ _ k1;have Gx:=hide (Go.out _ _ k1 f1 h2 h3);clear k1 f1 Go)
    | (go_at_call 166;refine Gx.out.mono ?_;rintro e w2 ⟨rfl,pb,c6,wt⟩;have Wt:=hide wt;clear wt Gx c5)
    | (go_at_call 160;refine Wt.out.mono ?_;rintro e w3 ⟨rfl,p3⟩;have P3:=hide p3;clear p3))
   go_end0
   exact⟨rfl,P3.out⟩
  ·rw [if_neg h2]
   clear h hs hc hp Go
   go_enter Tryz.func100,Tryz.ntmps100
   go_wp2_with (go_at_call 159;refine T.out.mono ?_;rintro e w1 ⟨rfl,v1,k1,f1⟩;have K1:=hide k1;have F1:=hide f1;clear k1 f1)
   go_end0
   exact⟨rfl,_,_,K1.out,F1.out⟩
end
theorem exec17 (s:MS) (br:List (Int×Int×Int)) (p:Nat) (a:Int):s.exec br p 17 a=(if s.top > 1000000 then s.pop.fault else if s.top > 0 then ({ s.pop with asleep:=pushF' (w64 (s.time+s.top),s.slept,p) s.asleep,slept:=s.slept+1 }:MS).wait p 1 else s.pop):=by
 unfold MS.exec
 rw [if_neg (by decide),if_neg (by decide),if_neg (by decide),if_neg (by decide),if_neg (by decide),if_neg (by decide),if_neg (by decide),if_neg (by decide),if_neg (by decide),if_neg (by decide),if_neg (by decide),if_neg (by decide),if_neg (by decide),if_neg (by decide),if_neg (by decide),if_neg (by decide),if_neg (by decide),if_pos rfl]
theorem ok17 {nb:Nat} {s:MS} {p:Nat} {a:Int} (hok:okX false nb s p 17 a=true):okLens s=true∧1≤s.stack.length∧0≤s.time∧s.time<9000000000000000000∧0≤s.slept∧s.slept<1000000000000:=by
 unfold okX at hok
 rw [if_neg (by decide),if_neg (by decide),if_neg (by decide),if_neg (by decide),if_neg (by decide),if_neg (by decide),if_neg (by decide),if_neg (by decide),if_pos rfl] at hok
 simp only [Bool.and_eq_true,decide_eq_true_eq] at hok
 obtain⟨⟨hl,_⟩,⟨⟨⟨⟨⟨_,h1⟩,_⟩,t0⟩,t1⟩,o0⟩,o1⟩:=hok
 exact⟨hl,Nat.le_of_ble_eq_true h1,t0,t1,o0,o1⟩
theorem w17 (t n:Int) (t0:0≤t) (t1:t<9000000000000000000) (n0:0<n) (n1:n≤1000000):w64 (t+n)=t+n:=by
 have h:IntKind.i64.wrap (t+n)=w64 (t+n):=Go.IntWalk.i64_left _
 rw [<-h]
 exact Go.IntWalk.i64_in _ (by omega)
theorem sleepH (mb:Nat) (C:CM):SleepH mb C:=by
 intro ρ V s p x a w h hc hp hok
 obtain⟨hl,h1,t0,t1,o0,o1⟩:=ok17 hok
 obtain⟨_,_,l3,_,_,_,l7⟩:=okLens_at hl
 obtain⟨l,n,hs,ht,hln⟩:=st1 (s:=s) h1
 have e2:∀ (A D:MS) (f:Int->MS),(if n > 1000000 then A else if n > 0 then f (w64 (s.time+n)) else D)=(if n > 1000000 then A else if n > 0 then f (s.time+n) else D):=by
  intro A D f
  split
  ·rfl
  ·split
   ·rw [w17 _ _ t0 t1 (by omega) (by omega)]
   ·rfl
 have e3:=e2 s.pop.fault s.pop (fun t=>({ s.pop with asleep:=pushF' (t,s.slept,p) s.asleep,slept:=s.slept+1 }:MS).wait p 1)
 rw [exec17,ht,e3]
 exact msleep_any hc hp l n hs t0 t1 o0 o1 a w h (by omega) (by omega)
end Go.Proofs.YtnhidaamfnjdjaaGreatDoor
namespace Go.Proofs.YtnhidaamfnjdjaaGreatDoor
open Go.RowKit Go.Maps
theorem swap_perm (l:List (Int×Int×Nat)) (i j:Nat) (hi:i<l.length) (hj:j<l.length):(slSwap l i j).Perm l:=by
 have h:=Array.swap_perm (xs:=l.toArray) (i:=i) (j:=j) (by simpa using hi) (by simpa using hj)
 rw [Array.perm_iff_toList_perm] at h
 have e:slSwap l i j=(l.toArray.swap i j (by simpa using hi) (by simpa using hj)).toList:=by
  unfold slSwap
  simp [Array.swap,List.getD_eq_getElem?_getD,List.getElem?_eq_getElem hi,List.getElem?_eq_getElem hj]
 rw [e]
 exact h
theorem downF_perm:∀ (f i n:Nat) (l:List (Int×Int×Nat)),n≤l.length->(downF f i n l).Perm l
 | 0,_,_,l,_=>List.Perm.refl l
 | f+1,i,n,l,h=>by
  rw [downF_at]
  split
  ·exact List.Perm.refl l
  ·rename_i h1
   have a:=downJ_gt i n l
   have b:=downJ_lt i n l h1
   split
   ·exact List.Perm.refl l
   ·exact (downF_perm f _ n _ (by rw [swap_len];exact h)).trans (swap_perm l i _ (by omega) (by omega))
theorem popF_perm (l:List (Int×Int×Nat)) (n:Nat) (hn:l.length=n+1):((popF l).1 :: (popF l).2).Perm l:=by
 have e3:popF l=((downF n 0 n (slSwap l 0 n)).getD n (0,0,0),(downF n 0 n (slSwap l 0 n)).take n):=by
  unfold popF
  rw [hn,Nat.add_sub_cancel,downF_fuel (n+1) n 0 n _ (by omega) (by omega)]
 have hl:(downF n 0 n (slSwap l 0 n)).length=n+1:=by rw [downF_len,swap_len,hn]
 have hp:(downF n 0 n (slSwap l 0 n)).Perm l:=(downF_perm n 0 n _ (by rw [swap_len];omega)).trans (swap_perm l 0 n (by omega) (by omega))
 rw [e3]
 generalize downF n 0 n (slSwap l 0 n)=d at *
 refine List.Perm.trans ?_ hp
 have hd:d=d.take n++[d.getD n (0,0,0)]:=by
  conv=>lhs;rw [<-List.take_append_drop n d]
  congr 1
  rw [List.drop_eq_getElem_cons (by omega),List.drop_eq_nil_of_le (by omega),List.getD_eq_getElem?_getD,List.getElem?_eq_getElem (by omega)]
  rfl
 conv=>rhs;rw [hd]
 exact (List.perm_append_singleton _ _).symm
end Go.Proofs.YtnhidaamfnjdjaaGreatDoor
namespace Go.Proofs.YtnhidaamfnjdjaaGreatDoor
open Go.RowKit Go.Maps
def WkOk (s:MS):Prop:=(∀ x∈s.asleep,okWoken s x.2.2=true)∧(s.asleep.map (fun x=>x.2.2)).Nodup
theorem okWk_at {s:MS} {q:Nat} (h:okWoken s q=true):∃ y,s.procs[q]?=some y∧y.told=1∧s.pr q=y:=by
 unfold okWoken at h
 rw [Bool.and_eq_true] at h
 have h1:q<s.procs.length:=Nat.lt_of_lt_of_le (Nat.lt_succ_self q) (Nat.le_of_ble_eq_true h.1)
 refine⟨s.procs[q],List.getElem?_eq_getElem h1,?_,?_⟩
 ·have:=Nat.eq_of_beq_eq_true h.2
  rwa [pr_get (List.getElem?_eq_getElem h1)] at this
 ·exact pr_get (List.getElem?_eq_getElem h1)
theorem goOn_asleep (s:MS) (q:Nat):(s.goOn q).asleep=s.asleep:=by unfold MS.goOn;dsimp only;split <;> rfl
theorem goOn_procs (s:MS) (q:Nat):(s.goOn q).procs=s.procs.set q { s.pr q with told:=0 }:=by unfold MS.goOn;dsimp only;split <;> rfl
theorem goOn_urg (s:MS) (q:Nat):(s.goOn q).urg.length≤s.urg.length+1:=by
 unfold MS.goOn;dsimp only;split
 ·show (s.urg++[q]).length≤_;simp
 ·show s.urg.length≤_;omega
theorem goOn_oth (s:MS) (q:Nat):(s.goOn q).oth.length≤s.oth.length+1:=by
 unfold MS.goOn;dsimp only;split
 ·show s.oth.length≤_;omega
 ·show (s.oth++[q]).length≤_;simp
theorem wk_step {s:MS} (n:Nat) (hn:s.asleep.length=n+1) (h:WkOk s):okWoken s (popF s.asleep).1.2.2=true∧WkOk (({ s with asleep:=(popF s.asleep).2 }:MS).goOn (popF s.asleep).1.2.2)∧(popF s.asleep).2.length=n:=by
 have hp:=popF_perm s.asleep n hn
 have hm:∀ y∈(popF s.asleep).1 :: (popF s.asleep).2,y∈s.asleep:=fun y hy=>hp.mem_iff.1 hy
 have hnd:(((popF s.asleep).1 :: (popF s.asleep).2).map (fun x=>x.2.2)).Nodup:=(hp.map _).nodup_iff.2 h.2
 rw [List.map_cons,List.nodup_cons] at hnd
 have hlen:=hp.length_eq
 rw [List.length_cons,hn] at hlen
 refine⟨h.1 _ (hm _ (List.mem_cons_self ..)),⟨?_,?_⟩,by omega⟩
 ·intro y hy
  rw [goOn_asleep] at hy
  have hy:y∈(popF s.asleep).2:=hy
  have ok:=h.1 y (hm y (List.mem_cons_of_mem _ hy))
  have hne:(popF s.asleep).1.2.2≠y.2.2:=fun e=>hnd.1 (by rw [e];exact List.mem_map.2 ⟨y,hy,rfl⟩)
  unfold okWoken at ok ⊢
  rw [goOn_procs,List.length_set]
  have e:(({ s with asleep:=(popF s.asleep).2 }:MS).goOn (popF s.asleep).1.2.2).pr y.2.2=s.pr y.2.2:=by
   unfold MS.pr
   rw [goOn_procs,List.getD_eq_getElem?_getD,List.getD_eq_getElem?_getD,List.getElem?_set_ne hne]
  rw [e]
  exact ok
 ·rw [goOn_asleep]
  exact hnd.2
theorem wakeAll_step {s:MS} {x:Int×Int×Nat} {r:List (Int×Int×Nat)} (hs:s.asleep=x :: r) (ht:x.1=s.time) (h:WkOk s) (f:Nat):MS.wakeAll (f+1) s=MS.wakeAll f (({ s with asleep:=(popF s.asleep).2 }:MS).goOn (popF s.asleep).1.2.2):=by
 have hw:=(wk_step r.length (by rw [hs];rfl) h).1
 obtain⟨y,_,h1,h2⟩:=okWk_at hw
 show (match s.asleep with|[]=>s|x :: r=>if x.1=s.time then MS.wakeAll f (({ s with asleep:=(popF (x :: r)).2 }:MS).tell (popF (x :: r)).1.2.2 0 0) else s)=_
 rw [hs] at h2 ⊢
 dsimp only
 rw [if_pos ht]
 unfold MS.tell
 rw [if_neg]
 intro e
 have e2:(s.pr (popF (x :: r)).1.2.2).told=2:=e
 rw [h2,h1] at e2
 cases e2
theorem wakeAll_end {s:MS} (f:Nat) (h:s.asleep=[]∨∃ x r,s.asleep=x :: r∧x.1≠s.time):MS.wakeAll f s=s:=by
 cases f with
 | zero=>rfl
 | succ f =>
  show (match s.asleep with|[]=>s|x :: r=>if x.1=s.time then MS.wakeAll f (({ s with asleep:=(popF (x :: r)).2 }:MS).tell (popF (x :: r)).1.2.2 0 0) else s)=_
  rcases h with h|⟨x,r,h,hne⟩
  ·rw [h]
  ·rw [h]
   dsimp only
   rw [if_neg hne]
def slN (mb:Nat) (w:World):Nat:=match w.cell? ⟨mb,8,none⟩ with|some (.slice _ n _)=>n|_=>0
theorem slN_at {mb:Nat} {ρ:Nat->MR} {C:CM} {V:MV} {s:MS} {w:World} (h:MsAt w mb ρ C V s):slN mb w=s.asleep.length:=by
 obtain⟨a,c,hv⟩:=ownsRow_len (h.slp (fun x=>x)).1
 unfold slN
 rw [mslp_cell h,hv]
end Go.Proofs.YtnhidaamfnjdjaaGreatDoor
namespace Go.Proofs.YtnhidaamfnjdjaaGreatDoor
open Go.RowKit Go.Maps
section
variable {mb : Nat} {ρ : Nat → MR} {C : CM} {V : MV} {s : MS}
theorem wake_one (n:Nat) (hn:s.asleep.length=n+1) (hk:WkOk s) (hl:s.asleep.length≤900000000000) (hu:s.urg.length≤900000000000) (ho:s.oth.length≤900000000000) (w:World) (h:MsAt w mb ρ C V s) :
  Calls Tryz.prog 169 #[slI mb] w fun e w2=>∃ pb o1 o2,e=.returned (.iface 212 (.agg #[.int .i64 o1,.int .i64 o2,.pointer (some ⟨pb,0,none⟩)]))∧w2.cell? ⟨pb,6,none⟩=some (.func (.func 161) #[.pointer (some ⟨pb,0,none⟩)] #[])∧pb<w2.heap.size∧(∀ O,Calls Tryz.prog 161 #[.pointer (some ⟨pb,0,none⟩),.int .i64 0,.int .i64 0] (w2.alloc O) fun e w3=>e=.returned (.tuple #[])∧MsPost mb C ρ V w (({ s with asleep:=(popF s.asleep).2 }:MS).goOn (popF s.asleep).1.2.2) w3):=by
 obtain⟨hw,_,_⟩:=wk_step n hn hk
 obtain⟨y,hy,ht,_⟩:=okWk_at hw
 have hq:(popF s.asleep).1.2.2<s.procs.length:=(List.getElem?_eq_some_iff.1 hy).1
 refine (hPop_any n hn w h (by omega)).mono ?_
 rintro e w2 ⟨rfl,ρ2,V2,k2,g2⟩
 have ep:V2.pb.getD (popF s.asleep).1.2.2 0=V.pb.getD (popF s.asleep).1.2.2 0:=g2.ptr (by rw [h.lens.1];exact hq)
 have c6:=k2.proc (popF s.asleep).1.2.2 y hy (fun x=>x)
 refine⟨V.pb.getD (popF s.asleep).1.2.2 0,(popF s.asleep).1.1,(popF s.asleep).1.2.1,rfl,?_,?_,?_⟩
 ·rw [<-ep]
  have:=cell_at c6.1 6
  rw [this]
  show some (toldV y.told _)=_
  rw [ht]
  rfl
 ·rw [<-ep]
  exact lt_of_at c6.1
 ·intro O
  obtain⟨k3,g3⟩:=k2.low ((Below.refl _ _).alloc (Nat.le_refl _) O)
  have:=misWoken_any (s:={ s with asleep:=(popF s.asleep).2 }) hy 0 0 (w2.alloc O) k3 (by show s.urg.length+1≤_;omega) (by show s.oth.length+1≤_;omega)
  unfold MV.ptr ptrB at this
  rw [ep] at this
  refine this.mono ?_
  rintro e w4 ⟨rfl,ρ4,V4,k4,g4⟩
  exact⟨rfl,ρ4,V4,k4,(g2.trans g3).trans g4⟩
end
end Go.Proofs.YtnhidaamfnjdjaaGreatDoor
namespace Go.Proofs.YtnhidaamfnjdjaaGreatDoor
open Go.RowKit Go.Maps
section
variable {mb : Nat} {ρ : Nat → MR} {C : CM} {V : MV} {s : MS}
def WkInv (mb:Nat) (C:CM) (ρ:Nat->MR) (V:MV) (w:World) (R:MS) (wr:World):Prop:=∃ f s' ρ' V',MsAt wr mb ρ' C V' s'∧MsGo V V' ρ ρ' w wr∧WkOk s'∧MS.wakeAll f s'=R∧s'.asleep.length≤f∧s'.urg.length+s'.asleep.length≤900000000000∧s'.oth.length+s'.asleep.length≤900000000000
theorem mtime_cell {w:World} (h:MsAt w mb ρ C V s):w.cell? ⟨mb,10,none⟩=some (.int .i64 s.time):=cell_at (h.blk (fun x=>x)) 10
set_option maxRecDepth 20000 in
set_option maxHeartbeats 4000000 in
theorem mwake_any (w:World) (h:MsAt w mb ρ C V s) (hl:s.asleep.length<900000000000) (hk:WkOk s) (hu:s.urg=[]) (ho:s.oth=[]) :
  Calls Tryz.prog 109 #[.pointer (some ⟨mb,0,none⟩)] w fun e w'=>e=.returned (.tuple #[])∧MsPost mb C ρ V w s.wakeNext w':=by
 have c8:=mslp_cell h
 cases ha:s.asleep with
 | nil =>
  obtain⟨a,c,hv⟩:=ownsRow_len (h.slp (fun x=>x)).1
  rw [ha] at hv
  rw [hv] at c8
  have e:s.wakeNext=s:=by unfold MS.wakeNext;rw [ha]
  rw [e]
  have c8:w.cell? ⟨mb,8,none⟩=some (.slice a 0 c):=c8
  have H:=hide h
  clear h hv e ha hk hu ho
  go_enter Tryz.func109,Tryz.ntmps109
  go_wp2_with fail
  try simp only [Exit.inBlock,Exit.then]
  refine bodyPost_ret (results_none rfl _ _ _) rfl ?_
  exact⟨rfl,_,_,H.out,MsGo.refl _ _ _⟩
 | cons x r =>
  obtain⟨g,cap,hv,h1,h2,hc,hz,hg,hgl⟩:=mslp_at h (i:=0) (by rw [ha];simp)
  have i0:=(hc 0 (by rw [ha];simp)).1
  have hlen:s.asleep.length=r.length+1:=by rw [ha];rfl
  rw [hv,hlen] at c8
  have ex:(s.asleep.getD 0 (0,0,0)).1=x.1:=by rw [ha];rfl
  rw [ex] at i0
  have i0:w.cell? ⟨g,0,none⟩=some (.int .i64 x.1):=by simpa using i0
  have z10:=mfroz h
  generalize hR:s.wakeNext=R
  have hR2:MS.wakeAll (r.length+1) { s with time:=x.1 }=R:=by rw [<-hR];unfold MS.wakeNext;rw [ha]
  have start:WkInv mb C ρ V w R (w.setCell ⟨mb,10,none⟩ (.int .i64 x.1)):=by
   obtain⟨k1,g1⟩:=mset (V':=V) (s':={ s with time:=x.1 }) h 10 (.int .i64 x.1) rfl ((MsIf.strip h).scal rfl s.cur s.slept x.1 s.ended s.faulty)
   exact⟨r.length+1,_,ρ,V,k1,g1,hk,hR2,by show s.asleep.length≤_;omega,by show s.urg.length+s.asleep.length≤_;rw [hu];simp;omega,by show s.oth.length+s.asleep.length≤_;rw [ho];simp;omega⟩
  have St:=hide start
  have c10:=mtime_cell h
  rw [hlen] at h1 hl
  have ta:=slTa
  clear start hR2 hR h hc hk hu ho ha hv hg hlen ex
  generalize r.length=n at *
  generalize x.1=t at *
  go_enter Tryz.func109,Tryz.ntmps109
  go_wp2_with fail
  clear c8 i0 z10 c10 hz
  go_loopw [2] (fun _ wr=>WkInv mb C ρ V w R wr) (fun _ wr=>slN mb wr)
  case atStart=>exact St.out
  case round =>
   obtain⟨f,s',ρ',V',k1,g1,hk1,hf,hlf,hu1,ho1⟩:=hrel
   clear St
   have cc8:=mslp_cell k1
   have cc10:=mtime_cell k1
   cases ha:s'.asleep with
   | nil =>
    obtain⟨a,c,hv⟩:=ownsRow_len (k1.slp (fun x=>x)).1
    rw [ha] at hv
    rw [hv] at cc8
    have cc8:wr.cell? ⟨mb,8,none⟩=some (.slice a 0 c):=cc8
    rw [wakeAll_end f (.inl ha)] at hf
    have K1:=hide k1
    have G1:=hide g1
    have Hf:=hide hf
    have L9:∀ n,MsAt (wr.drewN n) mb ρ' C V' R∧MsGo V' V' ρ' ρ' wr (wr.drewN n):=fun n=>by rw [<-Hf.out];exact K1.out.low (bdrew (Below.refl _ _) n)
    clear k1 g1 hf hv ha hk1
    go_wp2_with fail
    go_quiet (fail)
    go_wp2_with fail
    go_end0
    exact⟨rfl,_,_,(L9 _).1,G1.out.trans (L9 _).2⟩
   | cons x r =>
    obtain⟨g',cap',hv,j1,j2,hc,hz,hg,hgl'⟩:=mslp_at k1 (i:=0) (by rw [ha];simp)
    have i0:=(hc 0 (by rw [ha];simp)).1
    have hlen:s'.asleep.length=r.length+1:=by rw [ha];rfl
    rw [hv,hlen] at cc8
    have ex:(s'.asleep.getD 0 (0,0,0)).1=x.1:=by rw [ha];rfl
    rw [ex] at i0
    have i0:wr.cell? ⟨g',0,none⟩=some (.int .i64 x.1):=by simpa using i0
    rw [hlen] at j1
    have N1:=hide (slN_at k1)
    by_cases ht:x.1=s'.time
    ·have hd:(x.1 == s'.time)=true:=by simpa using ht
     obtain⟨f',rfl⟩:∃ f',f=f'+1:=⟨f - 1,by omega⟩
     rw [wakeAll_step ha ht hk1] at hf
     have P:Hid (∀ k,Calls Tryz.prog 169 #[slI mb] (wr.drewN k) fun e w2=>∃ pb o1 o2,e=.returned (.iface 212 (.agg #[.int .i64 o1,.int .i64 o2,.pointer (some ⟨pb,0,none⟩)]))∧w2.cell? ⟨pb,6,none⟩=some (.func (.func 161) #[.pointer (some ⟨pb,0,none⟩)] #[])∧pb<w2.heap.size∧(∀ O,Calls Tryz.prog 161 #[.pointer (some ⟨pb,0,none⟩),.int .i64 0,.int .i64 0] (w2.alloc O) fun e w3=>e=.returned (.tuple #[])∧WkInv mb C ρ V w R w3∧slN mb w3<slN mb wr)):=hide (by
      intro k
      obtain⟨kd,gd⟩:=k1.low (bdrew (Below.refl _ _) k)
      refine (wake_one r.length hlen hk1 (by omega) (by omega) (by omega) (wr.drewN k) kd).mono ?_
      rintro e w2 ⟨pb,o1,o2,he,h6,hpb,hcall⟩
      refine⟨pb,o1,o2,he,h6,hpb,fun O=>(hcall O).mono ?_⟩
      rintro e w3 ⟨rfl,ρ3,V3,k3,g3⟩
      obtain⟨_,hk3,hl3⟩:=wk_step r.length hlen hk1
      have ea:(({ s' with asleep:=(popF s'.asleep).2 }:MS).goOn (popF s'.asleep).1.2.2).asleep.length=r.length:=by rw [goOn_asleep];exact hl3
      have eu:=goOn_urg ({ s' with asleep:=(popF s'.asleep).2 }:MS) (popF s'.asleep).1.2.2
      have eo:=goOn_oth ({ s' with asleep:=(popF s'.asleep).2 }:MS) (popF s'.asleep).1.2.2
      have eu:_≤s'.urg.length+1:=eu
      have eo:_≤s'.oth.length+1:=eo
      refine⟨rfl,⟨f',_,ρ3,V3,k3,(g1.trans gd).trans g3,hk3,hf,by omega,by omega,by omega⟩,?_⟩
      rw [slN_at k3,N1.out,ea,hlen]
      omega)
     unfold slI at P
     clear k1 g1 hk1 hf hlf hu1 ho1 hc hz hg ha hv hlen ex ht N1
     generalize r.length=n' at *
     generalize x.1=t' at *
     generalize s'.time=tm at *
     have hn0:decide ((0:Int)<((n'+1:Nat):Int))=true:=by simp
     go_wp2_with fail
     go_quiet (fail)
     go_wp2_with (first
      | (go_at_call 169;with_reducible refine (P.out _).mono ?_;rintro e w2 ⟨pb,o1,o2,rfl,h6,hpb,hcall⟩;have Hc:=hide hcall;clear hcall P)
      | (go_at_call 161;refine (Hc.out _).mono ?_;rintro e w3 ⟨rfl,iv,lt⟩;have Iv:=hide iv;have Lt:=hide lt;clear iv lt Hc))
     go_roundw
     case rel=>(repeat apply Exists.intro);exact⟨Iv.out,rfl⟩
     case measure=>exact Lt.out
    ·rw [wakeAll_end f (.inr ⟨x,r,ha,ht⟩)] at hf
     have hd:(x.1 == s'.time)=false:=by simpa using ht
     have K1:=hide k1
     have G1:=hide g1
     have Hf:=hide hf
     have L9:∀ n,MsAt (wr.drewN n) mb ρ' C V' R∧MsGo V' V' ρ' ρ' wr (wr.drewN n):=fun n=>by rw [<-Hf.out];exact K1.out.low (bdrew (Below.refl _ _) n)
     clear k1 g1 hk1 hf hlf hu1 ho1 hc hz hg ha hv hlen ex ht N1
     generalize r.length=n' at *
     generalize x.1=t' at *
     generalize s'.time=tm at *
     have hn0:decide ((0:Int)<((n'+1:Nat):Int))=true:=by simp
     go_wp2_with fail
     go_quiet (fail)
     go_wp2_with fail
     go_end0
     exact⟨rfl,_,_,(L9 _).1,G1.out.trans (L9 _).2⟩
end
end Go.Proofs.YtnhidaamfnjdjaaGreatDoor
namespace Go.Proofs.YtnhidaamfnjdjaaGreatDoor
open Go.RowKit Go.Maps
theorem okOnce_nodup:∀ (l:List (Int×Int×Nat)),okOnce l=true->(l.map (fun x=>x.2.2)).Nodup
 | [],_=>List.nodup_nil
 | x :: l,h=>by
  have h:(l.all (fun y=>!Nat.beq x.2.2 y.2.2)&&okOnce l)=true:=h
  rw [Bool.and_eq_true,List.all_eq_true] at h
  rw [List.map_cons,List.nodup_cons]
  refine⟨fun hm=>?_,okOnce_nodup l h.2⟩
  obtain⟨y,hy,e⟩:=List.mem_map.1 hm
  have:=h.1 y hy
  rw [e] at this
  simp [Nat.beq_refl] at this
theorem wakeH (mb:Nat) (C:CM):WakeH mb C:=by
 intro ρ V s w h hl _ hu ho ha hn
 obtain⟨_,_,_,_,_,_,l7⟩:=okLens_at hl
 exact mwake_any w h l7 ⟨fun x hx=>List.all_eq_true.1 ha x hx,okOnce_nodup _ hn⟩ hu ho
end Go.Proofs.YtnhidaamfnjdjaaGreatDoor
