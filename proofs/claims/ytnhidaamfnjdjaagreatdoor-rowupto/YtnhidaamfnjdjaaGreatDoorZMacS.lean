import Derived.Test.YtnhidaamfnjdjaaGreatDoorZMacO
namespace Go.Proofs.YtnhidaamfnjdjaaGreatDoor
open Go.RowKit Go.Maps
section
variable {mb : Nat} {ρ : Nat → MR} {C : CM} {V : MV} {s : MS}
theorem tail_cases {w:World} {e:TypeId} {g off cap:Nat} {x:Value} {xs:List Value} (h:QAt w e (.slice (some ⟨g,off,none⟩) (xs.length+1) cap) (x :: xs)) (hc:cap≤1):QAt w e (.slice (some ⟨g,off,none⟩) xs.length 0) xs:=by
 rcases h with ⟨hb,_⟩|⟨g',off',cap',cur,hb,hg,hx,hm,hsz,_⟩
 ·simp at hb
 ·simp only [Value.slice.injEq,Option.some.injEq,Addr.mk.injEq,and_true] at hb
  obtain⟨⟨rfl,rfl⟩,_,rfl⟩:=hb
  have hl0:xs=[]:=List.length_eq_zero_iff.1 (by simp only [List.length_cons] at hx;omega)
  subst hl0
  exact .inr ⟨g,off,0,cur,rfl,hg,Nat.zero_le _,Nat.zero_le _,by omega,rfl⟩
theorem MsIf.withUrg {A:MR->Prop} {w:World} (h:MsIf A w mb ρ C V s) (v:Value) (l:List Nat) (hq:QAt w 96 v (l.map V.ptr)∧Ro' ρ v .urg) (hA:A .mach):MsIf A w mb ρ C { V with ur:=v } { s with urg:=l } :=
 ⟨fun x=>absurd hA x,h.rb,h.code,h.brs,h.vars,h.chans,h.stack,fun _=>hq,h.oth,h.slp,h.out,h.proc,h.opn,h.num,h.lens⟩
set_option maxRecDepth 20000 in
set_option maxHeartbeats 4000000 in
theorem mtakeFirst_urg (p:Nat) (l:List Nat) (hu:s.urg=p :: l) (w:World) (h:MsAt w mb ρ C V s) (hl:l.length≤1000000000000) :
  Calls Tryz.prog 110 #[.pointer (some ⟨mb,6,none⟩)] w fun e w'=>e=.returned (V.ptr p)∧∃ v,MsAt w' mb ρ C { V with ur:=v } { s with urg:=l }∧MsGo V { V with ur:=v } ρ ρ w w':=by
 have q:=h.urg (fun x=>x)
 have c4:w.cell? ⟨mb,6,none⟩=some V.ur:=cell_at (h.blk (fun x=>x)) 6
 have z4:∀ i,w.frozen? ⟨mb,i,none⟩=false:=fun i=>frozen_at (h.blk (fun x=>x)) i
 rw [hu] at q
 obtain⟨gn,off,nc,hnv,hn1,hn2,hcell,hfz,hnl⟩:=q.1.shape (by simp)
 simp only [List.map_cons,List.length_cons,List.length_map] at hnv hn1
 have hx0:w.cell? ⟨gn,off,none⟩=some (V.ptr p):=hcell 0 _ rfl
 have q1:QAt w 96 (.slice (some ⟨gn,off,none⟩) ((l.map V.ptr).length+1) nc) (V.ptr p :: l.map V.ptr):=by
  have:=q.1
  rw [hnv] at this
  simpa using this
 have r0:∀ o cc,Ro' ρ (.slice (some ⟨gn,o,none⟩) l.length cc) .urg:=fun o cc g' hg'=>q.2 g' (by rw [hnv];exact hg')
 have qt:=q1.tail
 rw [List.length_map] at qt
 have q0:=fun hc=>tail_cases q1 hc
 rw [List.length_map] at q0
 have fin:=mset h 6 (.slice (some ⟨gn,off+1,none⟩) l.length (nc - 1)) rfl ((MsIf.strip h).withUrg _ l ⟨qt,r0 _ _⟩ rfl)
 have fin0:=fun hc=>mset h 6 (.slice (some ⟨gn,off,none⟩) l.length 0) rfl ((MsIf.strip h).withUrg _ l ⟨q0 hc,r0 _ _⟩ rfl)
 rw [hnv] at c4
 have Fin:=hide fin;have Fin0:=hide fin0
 clear h hu q q1 qt q0 fin fin0 hcell hnv r0
 unfold MV.ptr ptrB at hx0 ⊢
 generalize V.pb.getD p 0=pb at *
 go_enter Tryz.func110,Tryz.ntmps110
 go_wp2_with fail
 ·go_ret
  exact⟨rfl,_,(Fin0.out (by omega)).1,(Fin0.out (by omega)).2⟩
 ·go_ret
  exact⟨rfl,_,Fin.out.1,Fin.out.2⟩
set_option maxRecDepth 20000 in
set_option maxHeartbeats 4000000 in
theorem mtakeFirst_urg0 (hu:s.urg=[]) (w:World) (h:MsAt w mb ρ C V s) :
  Calls Tryz.prog 110 #[.pointer (some ⟨mb,6,none⟩)] w fun e w'=>e=.returned (.pointer none)∧w'=w:=by
 have q:=h.urg (fun x=>x)
 have c4:w.cell? ⟨mb,6,none⟩=some V.ur:=cell_at (h.blk (fun x=>x)) 6
 obtain⟨va,cc,hv⟩:=q.1.len
 rw [hu] at hv
 simp only [List.map_nil,List.length_nil] at hv
 rw [hv] at c4
 clear h q hv hu
 go_enter Tryz.func110,Tryz.ntmps110
 go_wp2_with fail
 go_ret
 exact⟨rfl,rfl⟩
theorem MsIf.withOth {A:MR->Prop} {w:World} (h:MsIf A w mb ρ C V s) (v:Value) (l:List Nat) (hq:QAt w 96 v (l.map V.ptr)∧Ro' ρ v .oth) (hA:A .mach):MsIf A w mb ρ C { V with ot:=v } { s with oth:=l } :=
 ⟨fun x=>absurd hA x,h.rb,h.code,h.brs,h.vars,h.chans,h.stack,h.urg,fun _=>hq,h.slp,h.out,h.proc,h.opn,h.num,h.lens⟩
set_option maxRecDepth 20000 in
set_option maxHeartbeats 4000000 in
theorem mtakeFirst_oth (p:Nat) (l:List Nat) (hu:s.oth=p :: l) (w:World) (h:MsAt w mb ρ C V s) (hl:l.length≤1000000000000) :
  Calls Tryz.prog 110 #[.pointer (some ⟨mb,7,none⟩)] w fun e w'=>e=.returned (V.ptr p)∧∃ v,MsAt w' mb ρ C { V with ot:=v } { s with oth:=l }∧MsGo V { V with ot:=v } ρ ρ w w':=by
 have q:=h.oth (fun x=>x)
 have c4:w.cell? ⟨mb,7,none⟩=some V.ot:=cell_at (h.blk (fun x=>x)) 7
 have z4:∀ i,w.frozen? ⟨mb,i,none⟩=false:=fun i=>frozen_at (h.blk (fun x=>x)) i
 rw [hu] at q
 obtain⟨gn,off,nc,hnv,hn1,hn2,hcell,hfz,hnl⟩:=q.1.shape (by simp)
 simp only [List.map_cons,List.length_cons,List.length_map] at hnv hn1
 have hx0:w.cell? ⟨gn,off,none⟩=some (V.ptr p):=hcell 0 _ rfl
 have q1:QAt w 96 (.slice (some ⟨gn,off,none⟩) ((l.map V.ptr).length+1) nc) (V.ptr p :: l.map V.ptr):=by
  have:=q.1
  rw [hnv] at this
  simpa using this
 have r0:∀ o cc,Ro' ρ (.slice (some ⟨gn,o,none⟩) l.length cc) .oth:=fun o cc g' hg'=>q.2 g' (by rw [hnv];exact hg')
 have qt:=q1.tail
 rw [List.length_map] at qt
 have q0:=fun hc=>tail_cases q1 hc
 rw [List.length_map] at q0
 have fin:=mset h 7 (.slice (some ⟨gn,off+1,none⟩) l.length (nc - 1)) rfl ((MsIf.strip h).withOth _ l ⟨qt,r0 _ _⟩ rfl)
 have fin0:=fun hc=>mset h 7 (.slice (some ⟨gn,off,none⟩) l.length 0) rfl ((MsIf.strip h).withOth _ l ⟨q0 hc,r0 _ _⟩ rfl)
 rw [hnv] at c4
 have Fin:=hide fin;have Fin0:=hide fin0
 clear h hu q q1 qt q0 fin fin0 hcell hnv r0
 unfold MV.ptr ptrB at hx0 ⊢
 generalize V.pb.getD p 0=pb at *
 go_enter Tryz.func110,Tryz.ntmps110
 go_wp2_with fail
 ·go_ret
  exact⟨rfl,_,(Fin0.out (by omega)).1,(Fin0.out (by omega)).2⟩
 ·go_ret
  exact⟨rfl,_,Fin.out.1,Fin.out.2⟩
set_option maxRecDepth 20000 in
set_option maxHeartbeats 4000000 in
theorem mtakeFirst_oth0 (hu:s.oth=[]) (w:World) (h:MsAt w mb ρ C V s) :
  Calls Tryz.prog 110 #[.pointer (some ⟨mb,7,none⟩)] w fun e w'=>e=.returned (.pointer none)∧w'=w:=by
 have q:=h.oth (fun x=>x)
 have c4:w.cell? ⟨mb,7,none⟩=some V.ot:=cell_at (h.blk (fun x=>x)) 7
 obtain⟨va,cc,hv⟩:=q.1.len
 rw [hu] at hv
 simp only [List.map_nil,List.length_nil] at hv
 rw [hv] at c4
 clear h q hv hu
 go_enter Tryz.func110,Tryz.ntmps110
 go_wp2_with fail
 go_ret
 exact⟨rfl,rfl⟩
set_option maxRecDepth 20000 in
set_option maxHeartbeats 4000000 in
theorem msome_any (w:World) (h:MsAt w mb ρ C V s) (hu:s.urg.length≤1000000000000) (_ho:s.oth.length≤1000000000000) :
  Calls Tryz.prog 108 #[.pointer (some ⟨mb,0,none⟩)] w fun e w'=>e=.returned (.bool (decide (s.urg≠[]∨s.oth≠[])))∧w'=w:=by
 have c6:w.cell? ⟨mb,6,none⟩=some V.ur:=cell_at (h.blk (fun x=>x)) 6
 have c7:w.cell? ⟨mb,7,none⟩=some V.ot:=cell_at (h.blk (fun x=>x)) 7
 obtain⟨va,cc,hv⟩:=(h.urg (fun x=>x)).1.len
 obtain⟨va2,cc2,hv2⟩:=(h.oth (fun x=>x)).1.len
 rw [List.length_map] at hv hv2
 rw [hv] at c6
 rw [hv2] at c7
 have e:decide (s.urg≠[]∨s.oth≠[])=decide (0<s.urg.length∨0<s.oth.length):=by
  have a:s.urg≠[]↔0<s.urg.length:=List.length_pos_iff.symm
  have b:s.oth≠[]↔0<s.oth.length:=List.length_pos_iff.symm
  simp only [a,b]
 rw [e]
 clear h hv hv2 e
 generalize s.urg.length=n1 at *
 generalize s.oth.length=n2 at *
 go_enter Tryz.func108,Tryz.ntmps108
 go_wp2_with fail
 all_goals
  go_ret
  refine⟨?_,rfl⟩
  first
   | (congr 2;simp;omega)
   | (congr 2;symm;simp;omega)
end
end Go.Proofs.YtnhidaamfnjdjaaGreatDoor
namespace Go.Proofs.YtnhidaamfnjdjaaGreatDoor
open Go.RowKit Go.Maps
section
variable {mb : Nat} {ρ : Nat → MR} {C : CM} {V : MV} {s : MS}
set_option maxRecDepth 20000 in
set_option maxHeartbeats 4000000 in
theorem mwakeNext_none (hs:s.asleep=[]) (w:World) (h:MsAt w mb ρ C V s) :
  Calls Tryz.prog 109 #[.pointer (some ⟨mb,0,none⟩)] w fun e w'=>e=.returned (.tuple #[])∧MsPost mb C ρ V w s.wakeNext w':=by
 have c8:w.cell? ⟨mb,8,none⟩=some V.sl:=cell_at (h.blk (fun x=>x)) 8
 obtain⟨va,cc,hv⟩:=ownsRow_len (h.slp (fun x=>x)).1
 rw [hs] at hv
 simp only [List.length_nil] at hv
 rw [hv] at c8
 have e:s.wakeNext=s:=by unfold MS.wakeNext;rw [hs]
 rw [e]
 have H:=hide h
 clear h hv hs e
 go_enter Tryz.func109,Tryz.ntmps109
 go_wp2_with fail
 refine bodyPost_ret (results_none rfl _ _ _) rfl ?_
 exact⟨rfl,_,_,H.out,MsGo.refl _ _ _⟩
def MS.next (s:MS):MS :=
 match s.urg with
 | p :: r=>{ s with cur:=some p,urg:=r }
 | []=>match s.oth with
  | p :: r=>{ s with cur:=some p,oth:=r }
  | []=>{ s with cur:=none }
theorem makeCurrent_is (s:MS) (hf:s.faulty=false):s.makeCurrent=if s.urg=[]∧s.oth=[] then s.wakeNext.next else s.next:=by
 unfold MS.makeCurrent MS.next
 rw [if_neg (by rw [hf];decide)]
 by_cases h:s.urg=[]∧s.oth=[]
 ·simp only [if_pos h]
  rfl
 ·simp only [if_neg h]
  rfl
theorem mcur_set {w:World} (h:MsAt w mb ρ C V s) (c:Option Nat):MsAt (w.setCell ⟨mb,5,none⟩ (V.ptrO c)) mb ρ C V { s with cur:=c }∧MsGo V V ρ ρ w (w.setCell ⟨mb,5,none⟩ (V.ptrO c)) :=
 mset h 5 (V.ptrO c) rfl ((MsIf.strip h).scal rfl c s.slept s.time s.ended s.faulty)
theorem mfaulty_cell {w:World} (h:MsAt w mb ρ C V s) (b:Bool) (hf:s.faulty=b):w.cell? ⟨mb,13,none⟩=some (.bool b):=by rw [<-hf];exact cell_at (h.blk (fun x=>x)) 13
theorem mcur_cell {w:World} (h:MsAt w mb ρ C V s):w.cell? ⟨mb,5,none⟩=some (V.ptrO s.cur):=cell_at (h.blk (fun x=>x)) 5
theorem mfroz {w:World} (h:MsAt w mb ρ C V s):∀ i,w.frozen? ⟨mb,i,none⟩=false:=fun i=>frozen_at (h.blk (fun x=>x)) i
set_option maxRecDepth 20000 in
set_option maxHeartbeats 4000000 in
theorem mmake_faulty (hf:s.faulty=true) (hc:s.cur=none) (w:World) (h:MsAt w mb ρ C V s) :
  Calls Tryz.prog 57 #[.pointer (some ⟨mb,0,none⟩)] w fun e w'=>e=.returned (.bool s.makeCurrent.cur.isSome)∧MsPost mb C ρ V w s.makeCurrent w':=by
 have c13:=mfaulty_cell h true hf
 have e:s.makeCurrent=s:=by unfold MS.makeCurrent;rw [if_pos hf]
 rw [e,hc]
 have H:=hide h
 clear h hf e
 go_enter Tryz.func57,Tryz.ntmps57
 go_wp2_with fail
 go_ret
 exact⟨rfl,_,_,H.out,MsGo.refl _ _ _⟩
set_option maxRecDepth 20000 in
set_option maxHeartbeats 4000000 in
theorem mmake_urg {p:Nat} {l:List Nat} (hf:s.faulty=false) (hq:s.urg=p :: l) (w:World) (h:MsAt w mb ρ C V s) (hu:s.urg.length≤1000000000000) (ho:s.oth.length≤1000000000000) :
  Calls Tryz.prog 57 #[.pointer (some ⟨mb,0,none⟩)] w fun e w'=>e=.returned (.bool true)∧MsPost mb C ρ V w s.next w':=by
 have c13:=mfaulty_cell h false hf
 have S:=hide (msome_any w h hu ho)
 have hd:decide (s.urg≠[]∨s.oth≠[])=true:=by rw [hq];simp
 rw [hd] at S
 have hll:l.length≤1000000000000:=by rw [hq] at hu;simp at hu;omega
 have T:=hide (mtakeFirst_urg p l hq w h hll)
 have e:s.next={ ({ s with urg:=l }:MS) with cur:=some p }:=by unfold MS.next;rw [hq]
 rw [e]
 clear h hf hq hu ho hd e hll
 generalize ({ s with urg:=l }:MS)=s1 at *
 go_enter Tryz.func57,Tryz.ntmps57
 go_wp2_with (first
  | (go_at_call 108;refine S.out.mono ?_;rintro e w1 ⟨rfl,hw⟩;have hw:=hw.symm;subst hw)
  | (go_at_call 110;refine T.out.mono ?_;rintro e w1 ⟨rfl,v,k1,f1⟩;have z1:=mfroz k1;have y1:=mcur_cell k1;have kc:=mcur_set k1 (some p);have Kc:=hide kc.1;have Fc:=hide (f1.trans kc.2);clear k1 f1 kc;unfold MV.ptrO at Kc Fc y1;unfold MV.ptr ptrB;simp only [Option.map_some] at Kc Fc;generalize V.pb.getD p 0=pb at *;generalize s1.cur.map (fun i=>(⟨V.pb.getD i 0,0,none⟩:Addr))=oc at *))
 go_ret
 exact⟨rfl,_,_,Kc.out,Fc.out⟩
set_option maxRecDepth 20000 in
set_option maxHeartbeats 4000000 in
theorem mmake_oth {p:Nat} {l:List Nat} (hf:s.faulty=false) (hq0:s.urg=[]) (hq:s.oth=p :: l) (w:World) (h:MsAt w mb ρ C V s) (hu:s.urg.length≤1000000000000) (ho:s.oth.length≤1000000000000) :
  Calls Tryz.prog 57 #[.pointer (some ⟨mb,0,none⟩)] w fun e w'=>e=.returned (.bool true)∧MsPost mb C ρ V w s.next w':=by
 have c13:=mfaulty_cell h false hf
 have S:=hide (msome_any w h hu ho)
 have hd:decide (s.urg≠[]∨s.oth≠[])=true:=by rw [hq];simp
 rw [hd] at S
 have hll:l.length≤1000000000000:=by rw [hq] at ho;simp at ho;omega
 have T0:=hide (mtakeFirst_urg0 hq0 w h)
 have z0:=mfroz h
 have y0:=mcur_cell h
 have kn:=mcur_set h none
 have T:=hide (mtakeFirst_oth (s:={ s with cur:=none }) p l hq _ kn.1 hll)
 have Fn:=hide kn.2
 have e:s.next={ ({ s with cur:=none,oth:=l }:MS) with cur:=some p }:=by unfold MS.next;rw [hq0,hq]
 rw [e]
 unfold MV.ptrO at T Fn y0
 simp only [Option.map_none] at T Fn
 clear h hf hq hu ho hd e hll kn
 generalize ({ s with cur:=none,oth:=l }:MS)=s1 at *
 generalize s.cur.map (fun i=>(⟨V.pb.getD i 0,0,none⟩:Addr))=oc at *
 go_enter Tryz.func57,Tryz.ntmps57
 go_wp2_with (first
  | (go_at_call 108;refine S.out.mono ?_;rintro e w1 ⟨rfl,hw⟩;have hw:=hw.symm;subst hw)
  | (go_at_call 110;refine T0.out.mono ?_;rintro e w1 ⟨rfl,hw⟩;have hw:=hw.symm;subst hw;clear T0)
  | (go_at_call 110;refine T.out.mono ?_;rintro e w1 ⟨rfl,v,k1,f1⟩;have z1:=mfroz k1;have y1:=mcur_cell k1;have kc:=mcur_set k1 (some p);have Kc:=hide kc.1;have Fc:=hide ((Fn.out.trans f1).trans kc.2);clear k1 f1 kc;unfold MV.ptrO at Kc Fc y1;unfold MV.ptr ptrB;simp only [Option.map_some] at Kc Fc;generalize V.pb.getD p 0=pb at *;generalize s1.cur.map (fun i=>(⟨V.pb.getD i 0,0,none⟩:Addr))=oc1 at *))
 go_ret
 exact⟨rfl,_,_,Kc.out,Fc.out⟩
end
end Go.Proofs.YtnhidaamfnjdjaaGreatDoor
namespace Go.Proofs.YtnhidaamfnjdjaaGreatDoor
open Go.RowKit Go.Maps
section
variable {mb : Nat} {ρ : Nat → MR} {C : CM} {V : MV} {s : MS}
set_option maxRecDepth 20000 in
set_option maxHeartbeats 4000000 in
theorem mmake_wake (hf:s.faulty=false) (hq0:s.urg=[]) (hq:s.oth=[]) (w:World) (h:MsAt w mb ρ C V s) (W:Calls Tryz.prog 109 #[.pointer (some ⟨mb,0,none⟩)] w fun e w'=>e=.returned (.tuple #[])∧MsPost mb C ρ V w s.wakeNext w') (hu:s.wakeNext.urg.length≤1000000000000) (ho:s.wakeNext.oth.length≤1000000000000) :
  Calls Tryz.prog 57 #[.pointer (some ⟨mb,0,none⟩)] w fun e w'=>e=.returned (.bool s.wakeNext.next.cur.isSome)∧MsPost mb C ρ V w s.wakeNext.next w':=by
 have c13:=mfaulty_cell h false hf
 have S:=hide (msome_any w h (by rw [hq0];simp) (by rw [hq];simp))
 have hd:decide (s.urg≠[]∨s.oth≠[])=false:=by rw [hq0,hq];simp
 rw [hd] at S
 have W':=hide W
 clear h hf hq hq0 hd W
 generalize s.wakeNext=s1 at *
 rcases hu1:s1.urg with _|⟨p,l⟩
 ·rcases ho1:s1.oth with _|⟨p,l⟩
  ·have e:s1.next={ ({ s1 with cur:=none }:MS) with cur:=none }:=by unfold MS.next;rw [hu1,ho1]
   rw [e]
   go_enter Tryz.func57,Tryz.ntmps57
   go_wp2_with (first
    | (go_at_call 108;refine S.out.mono ?_;rintro e w1 ⟨rfl,hw⟩;have hw:=hw.symm;subst hw)
    | (go_at_call 109;refine W'.out.mono ?_;rintro e w1 ⟨rfl,p1⟩;obtain⟨ρ1,V1,k1,f1⟩:=p1;have K1:=hide k1;have F1:=hide f1;clear k1 f1))
   have T0:=hide (mtakeFirst_urg0 hu1 _ K1.out)
   have z0:=mfroz K1.out
   have y0:=mcur_cell K1.out
   have kn:=mcur_set K1.out none
   have z2:=mfroz kn.1
   have y2:=mcur_cell kn.1
   have T:=hide (mtakeFirst_oth0 (s:={ s1 with cur:=none }) ho1 _ kn.1)
   have kn2:=mcur_set kn.1 none
   have Kn:=hide kn2.1
   have Fn:=hide ((F1.out.trans kn.2).trans kn2.2)
   unfold MV.ptrO at T Fn Kn y0 y2 z2
   simp only [Option.map_none] at T Fn Kn y2 z2
   clear K1 F1 kn kn2 e hu1 ho1
   generalize s1.cur.map (fun i=>(⟨V1.pb.getD i 0,0,none⟩:Addr))=oc at *
   go_wp2_with (first
    | (go_at_call 110;refine T0.out.mono ?_;rintro e w2 ⟨rfl,hw⟩;have hw:=hw.symm;subst hw;clear T0)
    | (go_at_call 110;refine T.out.mono ?_;rintro e w2 ⟨rfl,hw⟩;have hw:=hw.symm;subst hw;clear T))
   go_ret
   exact⟨rfl,_,_,Kn.out,Fn.out⟩
  ·have e:s1.next={ ({ s1 with cur:=none,oth:=l }:MS) with cur:=some p }:=by unfold MS.next;rw [hu1,ho1]
   rw [e]
   go_enter Tryz.func57,Tryz.ntmps57
   go_wp2_with (first
    | (go_at_call 108;refine S.out.mono ?_;rintro e w1 ⟨rfl,hw⟩;have hw:=hw.symm;subst hw)
    | (go_at_call 109;refine W'.out.mono ?_;rintro e w1 ⟨rfl,p1⟩;obtain⟨ρ1,V1,k1,f1⟩:=p1;have K1:=hide k1;have F1:=hide f1;clear k1 f1))
   have hll:l.length≤1000000000000:=by rw [ho1] at ho;simp at ho;omega
   have T0:=hide (mtakeFirst_urg0 hu1 _ K1.out)
   have z0:=mfroz K1.out
   have y0:=mcur_cell K1.out
   have kn:=mcur_set K1.out none
   have T:=hide (mtakeFirst_oth (s:={ s1 with cur:=none }) p l ho1 _ kn.1 hll)
   have Fn:=hide (F1.out.trans kn.2)
   unfold MV.ptrO at T Fn y0
   simp only [Option.map_none] at T Fn
   clear K1 F1 kn e hu1 ho1 hll hu ho
   generalize hs2:({ s1 with cur:=none,oth:=l }:MS)=s2 at *
   have Hs2:=hide hs2;clear hs2
   generalize s1.cur.map (fun i=>(⟨V1.pb.getD i 0,0,none⟩:Addr))=oc at *
   go_wp2_with (first
    | (go_at_call 110;refine T0.out.mono ?_;rintro e w2 ⟨rfl,hw⟩;have hw:=hw.symm;subst hw;clear T0)
    | (go_at_call 110;refine T.out.mono ?_;rintro e w2 ⟨rfl,v,k1,f1⟩;have z1:=mfroz k1;have y1:=mcur_cell k1;have kc:=mcur_set k1 (some p);have Kc:=hide kc.1;have Fc:=hide ((Fn.out.trans f1).trans kc.2);clear k1 f1 kc;unfold MV.ptrO at Kc Fc y1;unfold MV.ptr ptrB;simp only [Option.map_some] at Kc Fc;generalize V1.pb.getD p 0=pb at *;generalize s2.cur.map (fun i=>(⟨V1.pb.getD i 0,0,none⟩:Addr))=oc1 at *))
   go_ret
   have hs2:=Hs2.out
   subst hs2
   exact⟨rfl,_,_,Kc.out,Fc.out⟩
 ·have e:s1.next={ ({ s1 with urg:=l }:MS) with cur:=some p }:=by unfold MS.next;rw [hu1]
  rw [e]
  go_enter Tryz.func57,Tryz.ntmps57
  go_wp2_with (first
   | (go_at_call 108;refine S.out.mono ?_;rintro e w1 ⟨rfl,hw⟩;have hw:=hw.symm;subst hw)
   | (go_at_call 109;refine W'.out.mono ?_;rintro e w1 ⟨rfl,p1⟩;obtain⟨ρ1,V1,k1,f1⟩:=p1;have K1:=hide k1;have F1:=hide f1;clear k1 f1))
  have hll:l.length≤1000000000000:=by rw [hu1] at hu;simp at hu;omega
  have T:=hide (mtakeFirst_urg p l hu1 _ K1.out hll)
  clear K1 hu1 hu ho e hll
  generalize hs2:({ s1 with urg:=l }:MS)=s2 at *
  have Hs2:=hide hs2;clear hs2
  go_wp2_with (go_at_call 110;refine T.out.mono ?_;rintro e w2 ⟨rfl,v,k1,f1⟩;have z1:=mfroz k1;have y1:=mcur_cell k1;have kc:=mcur_set k1 (some p);have Kc:=hide kc.1;have Fc:=hide ((F1.out.trans f1).trans kc.2);clear k1 f1 kc;unfold MV.ptrO at Kc Fc y1;unfold MV.ptr ptrB;simp only [Option.map_some] at Kc Fc;generalize V1.pb.getD p 0=pb at *;generalize s2.cur.map (fun i=>(⟨V1.pb.getD i 0,0,none⟩:Addr))=oc at *)
  go_ret
  have hs2:=Hs2.out
  subst hs2
  exact⟨rfl,_,_,Kc.out,Fc.out⟩
theorem mmake_any (hc:s.cur=none) (w:World) (h:MsAt w mb ρ C V s) (W:s.urg=[]->s.oth=[]->Calls Tryz.prog 109 #[.pointer (some ⟨mb,0,none⟩)] w fun e w'=>e=.returned (.tuple #[])∧MsPost mb C ρ V w s.wakeNext w') (hu:s.urg.length≤1000000000000) (ho:s.oth.length≤1000000000000) (hu1:s.urg=[]->s.oth=[]->s.wakeNext.urg.length≤1000000000000) (ho1:s.urg=[]->s.oth=[]->s.wakeNext.oth.length≤1000000000000) :
  Calls Tryz.prog 57 #[.pointer (some ⟨mb,0,none⟩)] w fun e w'=>e=.returned (.bool s.makeCurrent.cur.isSome)∧MsPost mb C ρ V w s.makeCurrent w':=by
 rcases hf:s.faulty with _|_
 ·rw [makeCurrent_is s hf]
  rcases hq:s.urg with _|⟨p,l⟩
  ·rcases hq2:s.oth with _|⟨p,l⟩
   ·rw [if_pos ⟨rfl,rfl⟩]
    exact mmake_wake hf hq hq2 w h (W hq hq2) (hu1 hq hq2) (ho1 hq hq2)
   ·rw [if_neg (by simp)]
    have e:s.next.cur=some p:=by unfold MS.next;rw [hq,hq2]
    rw [e]
    exact mmake_oth hf hq hq2 w h hu ho
  ·rw [if_neg (by simp)]
   have e:s.next.cur=some p:=by unfold MS.next;rw [hq]
   rw [e]
   exact mmake_urg hf hq w h hu ho
 ·exact mmake_faulty hf hc w h
end
end Go.Proofs.YtnhidaamfnjdjaaGreatDoor
namespace Go.Proofs.YtnhidaamfnjdjaaGreatDoor
open Go.RowKit Go.Maps
section
variable {mb : Nat} {ρ : Nat → MR} {C : CM} {V : MV} {s : MS}
set_option maxRecDepth 20000 in
set_option maxHeartbeats 4000000 in
theorem mstands_any {x:PCh} (hx:s.chans[1]?=some x) (w:World) (h:MsAt w mb ρ C V s) (hu:s.urg.length≤1000000000000) (ho:s.oth.length≤1000000000000) (ha:s.asleep.length≤1000000000000) :
  Calls Tryz.prog 58 #[.pointer (some ⟨mb,0,none⟩)] w fun e w'=>e=.returned (.int .i64 s.stands)∧w'=w:=by
 have c13:w.cell? ⟨mb,13,none⟩=some (.bool s.faulty):=cell_at (h.blk (fun x=>x)) 13
 have c12:w.cell? ⟨mb,12,none⟩=some (.bool s.ended):=cell_at (h.blk (fun x=>x)) 12
 have c5:=mcur_cell h
 have c8:w.cell? ⟨mb,8,none⟩=some V.sl:=cell_at (h.blk (fun x=>x)) 8
 obtain⟨va,cc,hv⟩:=ownsRow_len (h.slp (fun x=>x)).1
 rw [hv] at c8
 obtain⟨g,cap,hv2,h1,h2,c3,d0,d1,d2,fz,ne⟩:=mchan_at h hx
 have hlt:1<s.chans.length:=(List.getElem?_eq_some_iff.1 hx).1
 have S:=hide (msome_any w h hu ho)
 have hrd:(s.ch 1).rd=x.rd:=by have:=ch_get hx;rw [show ((1:Nat):Int)=1 from rfl] at this;rw [this]
 have e:s.stands=if s.faulty=true then 5 else if s.ended=true then 2 else if s.cur≠none∨(decide (s.urg≠[]∨s.oth≠[]))=true∨0<s.asleep.length then 1 else if x.rd≠none then 3 else 4:=by
  unfold MS.stands
  rw [hrd]
  have a:s.asleep≠[]↔0<s.asleep.length:=List.length_pos_iff.symm
  simp only [decide_eq_true_eq,<-a,or_assoc]
 rw [e]
 unfold MV.ptrO at c5 d1
 clear h hv hv2 d0 d2 e hrd hu ho hx
 generalize s.faulty=b1 at *
 generalize s.ended=b2 at *
 generalize decide (s.urg≠[]∨s.oth≠[])=b3 at *
 generalize s.asleep.length=na at *
 generalize s.chans.length=nch at *
 cases b1 with
 | true =>
  go_enter Tryz.func58,Tryz.ntmps58
  go_wp2_with fail
  go_ret
  exact⟨rfl,rfl⟩
 | false=>cases b2 with
  | true =>
   go_enter Tryz.func58,Tryz.ntmps58
   go_wp2_with fail
   go_ret
   exact⟨rfl,rfl⟩
  | false=>cases hcu:s.cur with
   | some p =>
    rw [hcu] at c5
    simp only [Option.map_some] at c5
    go_enter Tryz.func58,Tryz.ntmps58
    go_wp2_with fail
    go_ret
    exact⟨rfl,rfl⟩
   | none =>
    rw [hcu] at c5
    simp only [Option.map_none] at c5
    cases b3 with
    | true =>
     go_enter Tryz.func58,Tryz.ntmps58
     go_wp2_with (go_at_call 108;refine S.out.mono ?_;rintro e w1 ⟨rfl,hw⟩;have hw:=hw.symm;subst hw)
     go_ret
     exact⟨rfl,rfl⟩
    | false =>
     by_cases hna:0<na
     ·go_enter Tryz.func58,Tryz.ntmps58
      go_wp2_with (go_at_call 108;refine S.out.mono ?_;rintro e w1 ⟨rfl,hw⟩;have hw:=hw.symm;subst hw)
      go_ret
      refine⟨?_,rfl⟩
      simp
     ·obtain rfl:na=0:=by omega
      cases hrd:x.rd with
      | none =>
       rw [hrd] at d1
       simp only [Option.map_none] at d1
       go_enter Tryz.func58,Tryz.ntmps58
       go_wp2_with (go_at_call 108;refine S.out.mono ?_;rintro e w1 ⟨rfl,hw⟩;have hw:=hw.symm;subst hw)
       go_ret
       exact⟨rfl,rfl⟩
      | some q =>
       rw [hrd] at d1
       simp only [Option.map_some] at d1
       go_enter Tryz.func58,Tryz.ntmps58
       go_wp2_with (go_at_call 108;refine S.out.mono ?_;rintro e w1 ⟨rfl,hw⟩;have hw:=hw.symm;subst hw)
       go_ret
       exact⟨rfl,rfl⟩
set_option maxRecDepth 20000 in
theorem mtime_any (w:World) (h:MsAt w mb ρ C V s) :
  Calls Tryz.prog 41 #[.pointer (some ⟨mb,0,none⟩)] w fun e w'=>e=.returned (.int .i64 s.time)∧w'=w:=by
 have c10:w.cell? ⟨mb,10,none⟩=some (.int .i64 s.time):=cell_at (h.blk (fun x=>x)) 10
 clear h
 go_enter Tryz.func41,Tryz.ntmps41
 go_wp2_with fail
 go_ret
 exact⟨rfl,rfl⟩
end
end Go.Proofs.YtnhidaamfnjdjaaGreatDoor
namespace Go.Proofs.YtnhidaamfnjdjaaGreatDoor
open Go.RowKit Go.Maps
section
variable {mb : Nat} {ρ : Nat → MR} {C : CM} {V : MV} {s : MS}
def giveR (ρ:Nat->MR) (v:Value):Nat->MR:=fun g=>if v.ownBlock=some g then .junk else ρ g
theorem mout_set {w:World} (h:MsAt w mb ρ C V s) :
  QAt (w.setCell ⟨mb,11,none⟩ (.slice none 0 0)) 3 V.wr (s.out.map intV)∧MsAt (w.setCell ⟨mb,11,none⟩ (.slice none 0 0)) mb (giveR ρ V.wr) C { V with wr:=.slice none 0 0 } { s with out:=[] }∧MsGo V { V with wr:=.slice none 0 0 } ρ (giveR ρ V.wr) w (w.setCell ⟨mb,11,none⟩ (.slice none 0 0)):=by
 have hst:=h.out (fun x=>x)
 have nm:∀ g,V.wr.ownBlock=some g->g≠mb:=fun g hg e=>by have:=hst.2 g hg;rw [e,h.rb.1] at this;cases this
 have fr:MsFr (Two .out) ρ (giveR ρ V.wr) w (w.setCell ⟨mb,11,none⟩ (.slice none 0 0)):=by
  refine⟨rfl,rfl,rfl,by simp,fun g _ hA=>⟨Below.heap_setCell _ _ _ _ (fun e=>hA (.inl (by have:g=mb:=e;rw [this];exact h.rb.1))),?_⟩⟩
  unfold giveR
  rw [if_neg (fun e=>hA (.inr (hst.2 g e)))]
 have hmb:giveR ρ V.wr mb=.mach:=by
  unfold giveR
  rw [if_neg (fun e=>nm mb e rfl)]
  exact h.rb.1
 have kp:=MsIf.keep h fr hmb
 have out:∀ r,r≠.mach->r≠.out->¬ Two .out r:=fun r h1 h2 x=>x.elim h1 h2
 refine⟨hst.1.frame (fun g hg=>Below.heap_setCell _ _ _ _ (fun x=>nm g hg x)),⟨fun _=>?_,kp.rb,fun _=>kp.code (out _ (by simp) (by simp)),fun _=>kp.brs (out _ (by simp) (by simp)),fun _=>kp.vars (out _ (by simp) (by simp)),fun _=>kp.chans (out _ (by simp) (by simp)),fun _=>kp.stack (out _ (by simp) (by simp)),fun _=>kp.urg (out _ (by simp) (by simp)),fun _=>kp.oth (out _ (by simp) (by simp)),fun _=>kp.slp (out _ (by simp) (by simp)),fun _=>⟨QAt.nil _ _,fun g hg=>by cases hg⟩,fun i p hp _=>kp.proc i p hp (out _ (by simp) (by simp)),fun i p hp _=>kp.opn i p hp (out _ (by simp) (by simp)),fun c x hx _=>kp.num c x hx (out _ (by simp) (by simp)),kp.lens⟩,fr.weak (junk_of (by simp)),List.prefix_rfl⟩
 exact at_setCell (h.blk (fun x=>x)) 11 _
set_option maxRecDepth 20000 in
set_option maxHeartbeats 4000000 in
theorem mout_any (w:World) (h:MsAt w mb ρ C V s) :
  Calls Tryz.prog 39 #[.pointer (some ⟨mb,0,none⟩)] w fun e w'=>e=.returned V.wr∧QAt w' 3 V.wr (s.out.map intV)∧MsAt w' mb (giveR ρ V.wr) C { V with wr:=.slice none 0 0 } { s with out:=[] }∧MsGo V { V with wr:=.slice none 0 0 } ρ (giveR ρ V.wr) w w':=by
 have c11:w.cell? ⟨mb,11,none⟩=some V.wr:=cell_at (h.blk (fun x=>x)) 11
 have z4:=mfroz h
 obtain⟨va,cc,hv⟩:=(h.out (fun x=>x)).1.len
 have R:=hide (mout_set h)
 rw [hv] at c11
 have Hv:=hide hv
 clear h hv
 generalize (s.out.map intV).length=nl at *
 rw [Hv.out]
 rw [Hv.out] at R
 clear Hv
 go_enter Tryz.func39,Tryz.ntmps39
 go_wp2_with fail
 go_ret
 exact⟨rfl,R.out⟩
end
end Go.Proofs.YtnhidaamfnjdjaaGreatDoor
namespace Go.Proofs.YtnhidaamfnjdjaaGreatDoor
open Go.RowKit Go.Maps
structure MS.InR (s:MS):Prop where
 urg:∀ i∈s.urg,i<s.procs.length
 oth:∀ i∈s.oth,i<s.procs.length
 slp:∀ x∈s.asleep,x.2.2<s.procs.length
 rd:∀ x∈s.chans,∀ i,x.rd=some i->i<s.procs.length
 wr:∀ x∈s.chans,∀ i,x.wr=some i->i<s.procs.length
 cur:∀ i,s.cur=some i->i<s.procs.length
 above:∀ x∈s.procs,∀ i,x.above=some i->i<s.procs.length
theorem mapIdx_same {α β:Type} {l:List α} {F G:Nat->α->β} (h:∀ i x,l[i]?=some x->F i x=G i x):l.mapIdx F=l.mapIdx G:=by
 apply List.ext_getElem?
 intro i
 rw [List.getElem?_mapIdx,List.getElem?_mapIdx]
 cases hx:l[i]? with
 | none=>rfl
 | some x=>rw [Option.map_some,Option.map_some,h i x hx]
section
variable {mb : Nat} {ρ : Nat → MR} {C : CM} {V : MV} {s : MS}
def MV.more (V:MV) (b:Nat):MV:={ V with pb:=V.pb++[b],ov:=V.ov++[.slice none 0 0] }
def moreR (ρ:Nat->MR) (b n:Nat):Nat->MR:=fun g=>if g=b then .proc n else ρ g
theorem more_get (V:MV) (b i:Nat) (h:i<V.pb.length):(V.more b).pb.getD i 0=V.pb.getD i 0:=by
 show (V.pb++[b]).getD i 0=_
 rw [List.getD,List.getD,List.getElem?_append_left h]
theorem more_ov (V:MV) (b i:Nat) (h:i<V.ov.length):(V.more b).ov.getD i (.slice none 0 0)=V.ov.getD i (.slice none 0 0):=by
 show (V.ov++[_]).getD i _=_
 rw [List.getD,List.getD,List.getElem?_append_left h]
theorem more_ptrO (V:MV) (b:Nat) (o:Option Nat) (h:∀ i,o=some i->i<V.pb.length):(V.more b).ptrO o=V.ptrO o:=by
 cases o with
 | none=>rfl
 | some i=>unfold MV.ptrO;rw [Option.map_some,Option.map_some,more_get V b i (h i rfl)]
theorem mmore {w:World} (h:MsAt w mb ρ C V s) (hr:s.InR) (ab:Option Nat) (hab:∀ i,ab=some i->i<s.procs.length) (u:Bool) (a:Int) :
  MsAt (w.alloc (.cells #[ptrB mb,V.ptrO ab,.bool u,.int .i64 a,.slice none 0 0,.int .i64 0,.nilFunc] 108)) mb (moreR ρ w.heap.size s.procs.length) C (V.more w.heap.size) { s with procs:=s.procs++[⟨ab,u,a,[],0,0⟩] } ∧
  MsGo V (V.more w.heap.size) ρ (moreR ρ w.heap.size s.procs.length) w (w.alloc (.cells #[ptrB mb,V.ptrO ab,.bool u,.int .i64 a,.slice none 0 0,.int .i64 0,.nilFunc] 108)):=by
 have fr:MsFr NoR ρ (moreR ρ w.heap.size s.procs.length) w (w.alloc (.cells #[ptrB mb,V.ptrO ab,.bool u,.int .i64 a,.slice none 0 0,.int .i64 0,.nilFunc] 108)):=by
  refine⟨rfl,rfl,rfl,by simp,fun g hg _=>⟨Below.heap_alloc _ _ _ hg,?_⟩⟩
  unfold moreR
  rw [if_neg (by omega)]
 have hmb:moreR ρ w.heap.size s.procs.length mb=.mach:=by
  unfold moreR
  have:=h.rb.2
  rw [if_neg (by omega)]
  exact h.rb.1
 have k:MsAt _ mb _ C V s:=MsIf.keep h fr hmb
 have hl:=h.lens
 have hptr:∀ i,i<s.procs.length->(V.more w.heap.size).ptr i=V.ptr i:=fun i hi=>by unfold MV.ptr;rw [more_get V _ i (by omega)]
 have hpo:∀ o:Option Nat,(∀ i,o=some i->i<s.procs.length)->(V.more w.heap.size).ptrO o=V.ptrO o:=fun o ho=>more_ptrO V _ o (fun i hi=>by have:=ho i hi;omega)
 refine⟨⟨fun _=>?_,k.rb,k.code,k.brs,k.vars,fun x=>?_,k.stack,fun x=>?_,fun x=>?_,fun x=>?_,k.out,fun i p hp x=>?_,fun i p hp x=>?_,k.num,?_⟩,fr.weak (fun r hr=>hr.elim),⟨_,rfl⟩⟩
 ·rw [k.blk (fun x=>x)]
  unfold MV.mach
  show some (Obj.cells #[V.co,V.br,V.va,V.ch,V.st,V.ptrO s.cur,V.ur,V.ot,V.sl,intV s.slept,intV s.time,V.wr,.bool s.ended,.bool s.faulty] _)=some (Obj.cells #[V.co,V.br,V.va,V.ch,V.st,(V.more w.heap.size).ptrO s.cur,V.ur,V.ot,V.sl,intV s.slept,intV s.time,V.wr,.bool s.ended,.bool s.faulty] _)
  rw [hpo _ hr.cur]
 ·have e:(V.more w.heap.size).chans s.chans=V.chans s.chans:=by
   unfold MV.chans
   rw [mapIdx_same (G:=fun c x=>V.chan c x)]
   intro i y hy
   have hm:y∈s.chans:=List.mem_of_getElem? hy
   show [V.nv.getD i _,(V.more w.heap.size).ptrO y.rd,(V.more w.heap.size).ptrO y.wr]=[V.nv.getD i _,V.ptrO y.rd,V.ptrO y.wr]
   rw [hpo _ (hr.rd y hm),hpo _ (hr.wr y hm)]
  show World.ownsRow _ 0 _ 3 V.ch s.chans.length ((V.more w.heap.size).chans s.chans)∧_
  rw [e]
  exact k.chans x
 ·have e:s.urg.map (V.more w.heap.size).ptr=s.urg.map V.ptr:=List.map_congr_left (fun i hi=>hptr i (hr.urg i hi))
  show QAt _ _ V.ur (s.urg.map (V.more w.heap.size).ptr)∧_
  rw [e]
  exact k.urg x
 ·have e:s.oth.map (V.more w.heap.size).ptr=s.oth.map V.ptr:=List.map_congr_left (fun i hi=>hptr i (hr.oth i hi))
  show QAt _ _ V.ot (s.oth.map (V.more w.heap.size).ptr)∧_
  rw [e]
  exact k.oth x
 ·have e:(V.more w.heap.size).slps s.asleep=V.slps s.asleep:=by
   unfold MV.slps
   rw [List.map_congr_left (fun y hy=>by rw [hptr _ (hr.slp y hy)])]
  show World.ownsRow _ 0 _ 3 V.sl s.asleep.length ((V.more w.heap.size).slps s.asleep)∧_
  rw [e]
  exact k.slp x
 ·rcases Nat.lt_or_ge i s.procs.length with hi|hi
  ·have hp':s.procs[i]?=some p:=by
    have:(s.procs++[⟨ab,u,a,[],0,0⟩])[i]?=some p:=hp
    rwa [List.getElem?_append_left hi] at this
   rw [more_get V _ i (by omega)]
   have hm:p∈s.procs:=List.mem_of_getElem? hp'
   have e:(V.more w.heap.size).proc mb i p=V.proc mb i p:=by
    unfold MV.proc
    rw [hpo _ (hr.above p hm),more_get V _ i (by omega),more_ov V _ i (by omega)]
   rw [e]
   exact k.proc i p hp' x
  ·have hp1:(s.procs++[⟨ab,u,a,[],0,0⟩])[i]?=some p:=hp
   rw [List.getElem?_append_right hi] at hp1
   have hi0:i - s.procs.length=0:=by
    rcases Nat.eq_zero_or_pos (i - s.procs.length) with z|z
    ·exact z
    ·rw [List.getElem?_eq_none (by simp;omega)] at hp1;cases hp1
   rw [hi0] at hp1
   obtain rfl:(⟨ab,u,a,[],0,0⟩:PPr)=p:=by simpa using hp1
   obtain rfl:i=s.procs.length:=by omega
   have e1:(V.more w.heap.size).pb.getD s.procs.length 0=w.heap.size:=by
    show (V.pb++[_]).getD _ _=_
    rw [<-hl.1]
    simp
   have e2:(V.more w.heap.size).ov.getD s.procs.length (.slice none 0 0)=.slice none 0 0:=by
    show (V.ov++[_]).getD _ _=_
    rw [<-hl.2.1]
    simp
   have e3:(V.more w.heap.size).proc mb s.procs.length ⟨ab,u,a,[],0,0⟩=#[ptrB mb,V.ptrO ab,.bool u,.int .i64 a,.slice none 0 0,.int .i64 0,.nilFunc]:=by
    unfold MV.proc
    rw [e2,hpo _ hab]
    rfl
   rw [e1,e3]
   refine⟨at_new _ _,?_⟩
   unfold moreR
   rw [if_pos rfl]
 ·rcases Nat.lt_or_ge i s.procs.length with hi|hi
  ·have hp':s.procs[i]?=some p:=by
    have:(s.procs++[⟨ab,u,a,[],0,0⟩])[i]?=some p:=hp
    rwa [List.getElem?_append_left hi] at this
   rw [more_ov V _ i (by omega)]
   exact k.opn i p hp' x
  ·have hp1:(s.procs++[⟨ab,u,a,[],0,0⟩])[i]?=some p:=hp
   rw [List.getElem?_append_right hi] at hp1
   have hi0:i - s.procs.length=0:=by
    rcases Nat.eq_zero_or_pos (i - s.procs.length) with z|z
    ·exact z
    ·rw [List.getElem?_eq_none (by simp;omega)] at hp1;cases hp1
   rw [hi0] at hp1
   obtain rfl:(⟨ab,u,a,[],0,0⟩:PPr)=p:=by simpa using hp1
   obtain rfl:i=s.procs.length:=by omega
   have e2:(V.more w.heap.size).ov.getD s.procs.length (.slice none 0 0)=.slice none 0 0:=by
    show (V.ov++[_]).getD _ _=_
    rw [<-hl.2.1]
    simp
   rw [e2]
   refine⟨?_,fun g hg=>by cases hg⟩
   exact World.ownsRow_nil _ _ _ _
 ·refine⟨?_,?_,hl.2.2⟩
  ·show (V.pb++[_]).length=(s.procs++[_]).length
   simp [hl.1]
  ·show (V.ov++[_]).length=(s.procs++[_]).length
   simp [hl.2.1]
theorem InR_setPr (hr:s.InR) {p:Nat} {x x':PPr} (hp:s.procs[p]?=some x) (ha:x'.above=x.above):(s.setPr p x').InR:=by
 have hl:(s.setPr p x').procs.length=s.procs.length:=by unfold MS.setPr;simp
 refine⟨fun i hi=>?_,fun i hi=>?_,fun y hy=>?_,fun y hy i hi=>?_,fun y hy i hi=>?_,fun i hi=>?_,fun y hy i hi=>?_⟩
 ·rw [hl];exact hr.urg i hi
 ·rw [hl];exact hr.oth i hi
 ·rw [hl];exact hr.slp y hy
 ·rw [hl];exact hr.rd y hy i hi
 ·rw [hl];exact hr.wr y hy i hi
 ·rw [hl];exact hr.cur i hi
 ·rw [hl]
  have hy:y∈s.procs.set p x':=hy
  rcases List.mem_or_eq_of_mem_set hy with hy|hy
  ·exact hr.above y hy i hi
  ·rw [hy,ha] at hi
   exact hr.above x (List.mem_of_getElem? hp) i hi
set_option maxRecDepth 20000 in
set_option maxHeartbeats 4000000 in
theorem mbeginNew_any {p:Nat} {x:PPr} (hc:s.cur=some p) (hp:s.procs[p]?=some x) (hr:s.InR) (a:Int) (u:Bool) (w:World) (h:MsAt w mb ρ C V s) (hb:x.below+1<1000000000000) (hb0:0≤x.below) (hu:s.urg.length+1≤1000000000000) (ho:s.oth.length+1≤1000000000000) :
  Calls Tryz.prog 168 #[.pointer (some ⟨mb,0,none⟩),.int .i64 a,.bool u] w fun e w'=>e=.returned (.tuple #[])∧MsPost mb C ρ V w (s.beginNew p a u) w':=by
 have hlt:p<s.procs.length:=(List.getElem?_eq_some_iff.1 hp).1
 have c5:=mcur_cell h
 rw [hc] at c5
 have q:=h.proc p x hp (fun x=>x)
 have d5:w.cell? ⟨V.pb.getD p 0,5,none⟩=some (.int .i64 x.below):=cell_at q.1 5
 have z3:∀ i,w.frozen? ⟨V.pb.getD p 0,i,none⟩=false:=fun i=>frozen_at q.1 i
 have fin:=mproc_set h hp 5 (.int .i64 (x.below+1)) (x':={ x with below:=x.below+1 }) rfl rfl
 have hr1:(s.setPr p { x with below:=x.below+1 }).InR:=InR_setPr hr hp rfl
 have e:s.beginNew p a u=({ s.setPr p { x with below:=x.below+1 } with procs:=(s.setPr p { x with below:=x.below+1 }).procs++[⟨some p,u,a,[],0,0⟩] }:MS).goOn (s.setPr p { x with below:=x.below+1 }).procs.length:=by
  unfold MS.beginNew
  rw [pr_get hp]
 rw [e]
 have hc1:(s.setPr p { x with below:=x.below+1 }).cur=some p:=hc
 have hu1:(s.setPr p { x with below:=x.below+1 }).urg=s.urg:=rfl
 have ho1:(s.setPr p { x with below:=x.below+1 }).oth=s.oth:=rfl
 have hl1:(s.setPr p { x with below:=x.below+1 }).procs.length=s.procs.length:=by unfold MS.setPr;simp
 have hlen:=h.lens.1
 clear e h q
 generalize s.setPr p { x with below:=x.below+1 }=s1 at *
 have gr:=mmore fin.1 hr1 (some p) (fun i hi=>by rw [hl1];cases hi;exact hlt) u a
 have fg:=fin.2.trans gr.2
 have G:=mgoOn_any (s:={ s1 with procs:=s1.procs++[⟨some p,u,a,[],0,0⟩] }) (p:=s1.procs.length) (x:=⟨some p,u,a,[],0,0⟩) (by show (_++[_])[_]?=_;simp) _ gr.1 (by show s1.urg.length+1≤_;rw [hu1];exact hu) (by show s1.oth.length+1≤_;rw [ho1];exact ho)
 have hsz:(w.setCell ⟨V.pb.getD p 0,5,none⟩ (.int .i64 (x.below+1))).heap.size=w.heap.size:=by simp
 have c5':=mcur_cell fin.1
 rw [hc1] at c5'
 have e1:(V.more (w.setCell ⟨V.pb.getD p 0,5,none⟩ (.int .i64 (x.below+1))).heap.size).ptr s1.procs.length=ptrB w.heap.size:=by
  unfold MV.ptr
  congr 1
  show (V.pb++[_]).getD _ _=_
  rw [hl1,<-hlen,hsz]
  simp
 rw [e1] at G
 unfold MV.ptrO at c5 c5' G fg
 unfold ptrB at G fg
 simp only [Option.map_some] at c5 c5' G fg
 have Fg:=hide fg;have G':=hide G
 clear fin hr hr1 gr fg hc1 hu1 ho1 hl1 e1 G
 generalize V.pb.getD p 0=pb at *
 go_enter Tryz.func168,Tryz.ntmps168
 go_wp2_with (go_at_call 196;refine G'.out.mono ?_;rintro e w1 ⟨rfl,p1⟩;obtain⟨ρ1,V1,k1,f1⟩:=p1;have K1:=hide k1;have F1:=hide (Fg.out.trans f1);clear k1 f1)
 go_end0
 exact⟨rfl,_,_,K1.out,F1.out⟩
set_option maxRecDepth 20000 in
set_option maxHeartbeats 4000000 in
theorem mbegin_any {p:Nat} {x:PPr} (hc:s.cur=some p) (hp:s.procs[p]?=some x) (hr:s.InR) (a:Int) (w:World) (h:MsAt w mb ρ C V s) (hb:x.below+1<1000000000000) (hb0:0≤x.below) (hu:s.urg.length+1≤1000000000000) (ho:s.oth.length+1≤1000000000000) :
  Calls Tryz.prog 104 #[.pointer (some ⟨mb,0,none⟩),.int .i64 a] w fun e w'=>e=.returned (.tuple #[])∧MsPost mb C ρ V w (s.beginNew p a x.urg) w':=by
 have c5:=mcur_cell h
 rw [hc] at c5
 have d2:w.cell? ⟨V.pb.getD p 0,2,none⟩=some (.bool x.urg):=cell_at (h.proc p x hp (fun x=>x)).1 2
 have G:=hide (mbeginNew_any hc hp hr a x.urg w h hb hb0 hu ho)
 unfold MV.ptrO at c5
 simp only [Option.map_some] at c5
 clear h hr hp hc
 generalize V.pb.getD p 0=pb at *
 generalize s.beginNew p a x.urg=s1 at *
 go_enter Tryz.func104,Tryz.ntmps104
 go_wp2_with (go_at_call 168;refine G.out.mono ?_;rintro e w1 ⟨rfl,p1⟩;have P1:=hide p1;clear p1)
 go_end0
 exact⟨rfl,P1.out⟩
set_option maxRecDepth 20000 in
set_option maxHeartbeats 4000000 in
theorem mbeginUrgent_any {p:Nat} {x:PPr} (hc:s.cur=some p) (hp:s.procs[p]?=some x) (hr:s.InR) (a:Int) (w:World) (h:MsAt w mb ρ C V s) (hb:x.below+1<1000000000000) (hb0:0≤x.below) (hu:s.urg.length+1≤1000000000000) (ho:s.oth.length+1≤1000000000000) :
  Calls Tryz.prog 105 #[.pointer (some ⟨mb,0,none⟩),.int .i64 a] w fun e w'=>e=.returned (.tuple #[])∧MsPost mb C ρ V w (s.beginNew p a true) w':=by
 have G:=hide (mbeginNew_any hc hp hr a true w h hb hb0 hu ho)
 clear h hr hp hc
 generalize s.beginNew p a true=s1 at *
 go_enter Tryz.func105,Tryz.ntmps105
 go_wp2_with (go_at_call 168;refine G.out.mono ?_;rintro e w1 ⟨rfl,p1⟩;have P1:=hide p1;clear p1)
 go_end0
 exact⟨rfl,P1.out⟩
end
end Go.Proofs.YtnhidaamfnjdjaaGreatDoor
namespace Go.Proofs.YtnhidaamfnjdjaaGreatDoor
open Go.RowKit Go.Maps
section
variable {mb : Nat} {ρ : Nat → MR} {C : CM} {V : MV} {s : MS}
set_option maxRecDepth 20000 in
set_option maxHeartbeats 4000000 in
theorem mend_none {p:Nat} {x:PPr} (hc:s.cur=some p) (hp:s.procs[p]?=some x) (ha:x.above=none) (a:Int) (w:World) (h:MsAt w mb ρ C V s) :
  Calls Tryz.prog 107 #[.pointer (some ⟨mb,0,none⟩),.int .i64 a] w fun e w'=>e=.returned (.tuple #[])∧MsPost mb C ρ V w { s.leave with ended:=true } w':=by
 have c5:=mcur_cell h
 rw [hc] at c5
 have d1:w.cell? ⟨V.pb.getD p 0,1,none⟩=some (V.ptrO x.above):=cell_at (h.proc p x hp (fun x=>x)).1 1
 rw [ha] at d1
 have L:=hide (mleave_any w h)
 unfold MV.ptrO at c5 d1
 simp only [Option.map_some,Option.map_none] at c5 d1
 clear h hp hc ha
 generalize V.pb.getD p 0=pb at *
 generalize s.leave=s1 at *
 go_enter Tryz.func107,Tryz.ntmps107
 go_wp2_with (go_at_call 167;refine L.out.mono ?_;rintro e w1 ⟨rfl,k1,f1⟩;have z1:=mfroz k1;have y12:w1.cell? ⟨mb,12,none⟩=some (.bool s1.ended):=(cell_at (k1.blk (fun x=>x)) 12);have kc:=mset k1 12 (.bool true) rfl ((MsIf.strip k1).scal rfl s1.cur s1.slept s1.time true s1.faulty);have Kc:=hide kc.1;have Fc:=hide (f1.trans kc.2);clear k1 f1 kc)
 refine bodyPost_ret (results_none rfl _ _ _) rfl ?_
 exact⟨rfl,_,_,Kc.out,Fc.out⟩
set_option maxRecDepth 20000 in
set_option maxHeartbeats 4000000 in
theorem mend_some {p q:Nat} {x y:PPr} (hc:s.cur=some p) (hp:s.procs[p]?=some x) (ha:x.above=some q) (hq:s.procs[q]?=some y) (hy0:0<y.below) (hy1:y.below≤1000000000000) (hy:y.below=1->y.told=1) (a:Int) (w:World) (h:MsAt w mb ρ C V s) (hu:s.urg.length+1≤1000000000000) (ho:s.oth.length+1≤1000000000000) :
  Calls Tryz.prog 107 #[.pointer (some ⟨mb,0,none⟩),.int .i64 a] w fun e w'=>e=.returned (.tuple #[])∧MsPost mb C ρ V w (if y.below=1 then (s.leave.setPr q { y with below:=y.below - 1 }).goOn q else s.leave.setPr q { y with below:=y.below - 1 }) w':=by
 have c5:=mcur_cell h
 rw [hc] at c5
 have d1:w.cell? ⟨V.pb.getD p 0,1,none⟩=some (V.ptrO x.above):=cell_at (h.proc p x hp (fun x=>x)).1 1
 rw [ha] at d1
 have L:=hide (mleave_any w h)
 unfold MV.ptrO at c5 d1
 simp only [Option.map_some] at c5 d1
 have hq1:s.leave.procs[q]?=some y:=hq
 have hu1:s.leave.urg=s.urg:=rfl
 have ho1:s.leave.oth=s.oth:=rfl
 rw [<-hu1] at hu
 rw [<-ho1] at ho
 clear h hp hc ha hq hu1 ho1
 generalize V.pb.getD p 0=pb at *
 generalize s.leave=s1 at *
 have hql:q<s1.procs.length:=(List.getElem?_eq_some_iff.1 hq1).1
 generalize hqb:V.pb.getD q 0=qb at *
 have Hqb:=hide hqb
 clear hqb
 by_cases hb:y.below=1
 ·rw [if_pos hb]
  have hyt:=hy hb
  rw [hb]
  have e:(1:Int) - 1=0:=rfl
  rw [e]
  go_enter Tryz.func107,Tryz.ntmps107
  go_wp2_with (first
   | (go_at_call 167;refine L.out.mono ?_;rintro e w1 ⟨rfl,k1,f1⟩;have q1:=(k1.proc q y hq1 (fun x=>x)).1;rw [Hqb.out] at q1;have z1:∀ i,w1.frozen? ⟨qb,i,none⟩=false:=(fun i=>frozen_at q1 i);have y5:w1.cell? ⟨qb,5,none⟩=some (.int .i64 y.below):=(cell_at q1 5);have fin:=mproc_set k1 hq1 5 (.int .i64 0) (x':={ y with below:=0 }) (by rfl) rfl;rw [Hqb.out] at fin;have hq2:(s1.setPr q { y with below:=0 }).procs[q]?=some { y with below:=0 }:=(by show (s1.procs.set q _)[q]?=_;rw [List.getElem?_set_self hql]);have q2:=(fin.1.proc q _ hq2 (fun x=>x)).1;rw [Hqb.out] at q2;have y6:(w1.setCell ⟨qb,5,none⟩ (.int .i64 0)).cell? ⟨qb,6,none⟩=some (toldV y.told (V.pb.getD q 0)):=(cell_at q2 6);have G:=hide (misWoken_any hq2 0 0 _ fin.1 (by exact hu) (by exact ho));have F1:=hide (f1.trans fin.2);rw [hyt,Hqb.out] at y6;rw [hb] at y5;unfold toldV ptrB at y6;simp only [if_true] at y6;unfold MV.ptr ptrB at G;rw [Hqb.out] at G;clear k1 f1 fin q1 q2)
   | (go_at_call 161;refine G.out.mono ?_;rintro e w2 ⟨rfl,p2⟩;obtain⟨ρ2,V2,k2,f2⟩:=p2;have K2:=hide k2;have F2:=hide (F1.out.trans f2);clear k2 f2))
  go_end0
  exact⟨rfl,_,_,K2.out,F2.out⟩
 ·rw [if_neg hb]
  go_enter Tryz.func107,Tryz.ntmps107
  go_wp2_with (go_at_call 167;refine L.out.mono ?_;rintro e w1 ⟨rfl,k1,f1⟩;have q1:=(k1.proc q y hq1 (fun x=>x)).1;rw [Hqb.out] at q1;have z1:∀ i,w1.frozen? ⟨qb,i,none⟩=false:=(fun i=>frozen_at q1 i);have y5:w1.cell? ⟨qb,5,none⟩=some (.int .i64 y.below):=(cell_at q1 5);have fin:=mproc_set k1 hq1 5 (.int .i64 (y.below - 1)) (x':={ y with below:=y.below - 1 }) (by rfl) rfl;rw [Hqb.out] at fin;have K1:=hide fin.1;have F1:=hide (f1.trans fin.2);clear k1 f1 fin q1)
  go_end0
  exact⟨rfl,_,_,K1.out,F1.out⟩
end
end Go.Proofs.YtnhidaamfnjdjaaGreatDoor
