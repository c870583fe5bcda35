import Derived.Test.YtnhidaamfnjdjaaGreatDoorZMacA
namespace Go.Proofs.YtnhidaamfnjdjaaGreatDoor
open Go.RowKit Go.Maps
theorem ptrInfo':(Tryz.prog.info? 96).map (fun i=>(i.zero,i.size,i.bytes))=some (some (.pointer none),1,8):=by kernel_rfl
section
variable {mb : Nat} {ρ : Nat → MR} {C : CM} {V : MV} {s : MS}
theorem mline_urg {w w4:World} {O:Obj} {v':Value} {p:Nat} (h:MsAt w mb ρ C V s) (g4:(w.alloc O).grownBy w4 V.ur.ownBlock) (q4:QAt w4 96 v' (s.urg.map V.ptr++[V.ptr p])) (b4:v'.ownBlock=V.ur.ownBlock∨∃ g,v'.ownBlock=some g∧(w.alloc O).heap.size≤g) :
  MsAt (w4.setCell ⟨mb,6,none⟩ v') mb (newR w.heap.size ρ v' .urg) C { V with ur:=v' } { s with urg:=s.urg++[p] }∧MsGo V { V with ur:=v' } ρ (newR w.heap.size ρ v' .urg) w (w4.setCell ⟨mb,6,none⟩ v'):=by
 have hst:=h.urg (fun x=>x)
 have fr:=fr_app (k:=6) (v':=v') h.rb.1 hst.2 g4
 have kp:=MsIf.keep h fr (by rw [newR_old h.rb.2];exact h.rb.1)
 have nm:v'.ownBlock≠some mb:=by
  rcases b4 with e|⟨g,e,hg⟩
  ·rw [e];intro x;have:=hst.2 mb x;rw [h.rb.1] at this;cases this
  ·have hsz:(w.alloc O).heap.size=w.heap.size+1:=by simp
   have:=h.rb.2
   rw [e];intro x;injection x with x;omega
 have hbm:w4.heap[mb]?=some (.cells (V.mach s) 102):=by
  have hsz:(w.alloc O).heap.size=w.heap.size+1:=by simp
  have hlt:=h.rb.2
  rw [g4.block mb (by omega) (fun e=>by have:=hst.2 mb e.symm;rw [h.rb.1] at this;cases this),Below.heap_alloc _ _ _ hlt]
  exact h.blk (fun x=>x)
 have out:∀ r,r≠.mach->r≠.urg->¬ Two .urg r:=fun r h1 h2 x=>x.elim h1 h2
 refine⟨⟨fun _=>?_,kp.rb,fun _=>kp.code (out _ (by simp) (by simp)),fun _=>kp.brs (out _ (by simp) (by simp)),fun _=>kp.vars (out _ (by simp) (by simp)),fun _=>kp.chans (out _ (by simp) (by simp)),fun _=>kp.stack (out _ (by simp) (by simp)),fun _=>⟨?_,ro_app hst.2 (fun g hg=>hst.1.lt hg) b4 (rfl:w4=w4)⟩,fun _=>kp.oth (out _ (by simp) (by simp)),fun _=>kp.slp (out _ (by simp) (by simp)),fun _=>kp.out (out _ (by simp) (by simp)),fun i p hp _=>kp.proc i p hp (out _ (by simp) (by simp)),fun i p hp _=>kp.opn i p hp (out _ (by simp) (by simp)),fun c x hx _=>kp.num c x hx (out _ (by simp) (by simp)),kp.lens⟩,fr.weak (junk_of (by simp)),List.prefix_rfl⟩
 ·exact at_setCell hbm 6 v'
 ·have e:(s.urg++[p]).map V.ptr=s.urg.map V.ptr++[V.ptr p]:=by simp
  show QAt _ _ v' ((s.urg++[p]).map V.ptr)
  rw [e]
  exact q4.frame (fun g hg=>Below.heap_setCell _ _ _ _ (fun x=>nm (by rw [hg];exact congrArg some x)))
set_option maxRecDepth 20000 in
set_option maxHeartbeats 2000000 in
theorem madd_urg (p:Nat) (w:World) (h:MsAt w mb ρ C V s) (hn:s.urg.length+1≤1000000000000) :
  Calls Tryz.prog 216 #[.pointer (some ⟨mb,6,none⟩),V.ptr p] w fun e w'=>e=.returned (.tuple #[])∧∃ ρ' v',MsAt w' mb ρ' C { V with ur:=v' } { s with urg:=s.urg++[p] }∧MsGo V { V with ur:=v' } ρ ρ' w w':=by
 have c4:w.cell? ⟨mb,6,none⟩=some V.ur:=cell_at (h.blk (fun x=>x)) 6
 have q:=h.urg (fun x=>x)
 obtain⟨va,cc,hv⟩:=q.1.len
 have hbm:=h.blk (fun x=>x)
 have hlt:=h.rb.2
 have law:∀ (w4:World),(w.alloc (.cells #[V.ptr p] 96)).grownBy w4 V.ur.ownBlock->w4.heap[mb]?=some (.cells (V.mach s) 102):=by
  intro w4 g4
  have hsz:(w.alloc (.cells #[V.ptr p] 96)).heap.size=w.heap.size+1:=by simp
  rw [g4.block mb (by omega) (fun e=>by have:=q.2 mb e.symm;rw [h.rb.1] at this;cases this),Below.heap_alloc _ _ _ hlt]
  exact hbm
 have fin:∀ (v':Value) (w4:World),QAt w4 96 v' (s.urg.map V.ptr++[V.ptr p])->(w.alloc (.cells #[V.ptr p] 96)).grownBy w4 V.ur.ownBlock->(v'.ownBlock=V.ur.ownBlock∨∃ g,v'.ownBlock=some g∧(w.alloc (.cells #[V.ptr p] 96)).heap.size≤g)->∃ ρ' v'',MsAt (w4.setCell ⟨mb,6,none⟩ v') mb ρ' C { V with ur:=v'' } { s with urg:=s.urg++[p] }∧MsGo V { V with ur:=v'' } ρ ρ' w (w4.setCell ⟨mb,6,none⟩ v'):=fun v' w4 q4 g4 b4=>⟨_,_,mline_urg h g4 q4 b4⟩
 have qa:QAt (w.alloc (.cells #[V.ptr p] 96)) 96 V.ur (s.urg.map V.ptr):=q.1.frame (fun g hg=>Below.heap_alloc _ _ _ (q.1.lt hg))
 rw [hv] at c4
 have Law:=hide law;have Fin:=hide fin;have Qa:=hide qa;have Hv:=hide hv
 clear h q hbm law fin qa hv
 rw [List.length_map] at c4 Hv
 unfold MV.ptr ptrB at Law Fin Qa ⊢
 generalize hs2:({ s with urg:=s.urg++[p] }:MS)=s2 at *
 clear hs2
 generalize V.pb.getD p 0=pb at *
 generalize hxs:s.urg.map (fun i=>Value.pointer (some ⟨V.pb.getD i 0,0,none⟩))=xs at *
 have hxl:xs.length=s.urg.length:=by rw [<-hxs,List.length_map]
 have Hxl:=hide hxl
 clear hxs hxl
 go_enter Tryz.func216,Tryz.ntmps216
 go_wp2_with (at_builtin;refine wpList_appendQ Tryz.underlying98 ptrInfo' rfl (by decide) rfl _ _ rfl (.slice va s.urg.length cc) xs rfl (by rw [<-Hv.out];exact Qa.out) ⟨w.heap.size,0,none⟩ 1 (.pointer (some ⟨pb,0,none⟩)) rfl (by exact cell_at (at_new w _) 0) rfl (by rw [Hxl.out];exact hn) ?_;intro v' w4 q4 g4 b4;obtain⟨va',vc',hv'⟩:=q4.len;subst hv';rw [<-Hv.out] at g4 b4;have hb4:=Law.out _ g4;have y4:w4.cell? ⟨mb,6,none⟩=some (.slice va s.urg.length cc):=(by rw [<-Hv.out];exact cell_at hb4 6);have z4:∀ i,w4.frozen? ⟨mb,i,none⟩=false:=(fun i=>frozen_at hb4 i);have R:=hide (Fin.out _ _ q4 g4 b4);clear q4 g4 b4 hb4)
 go_end0
 refine⟨rfl,?_⟩
 have:=R.out
 rw [List.length_append,List.length_singleton] at this
 exact this
theorem mline_oth {w w4:World} {O:Obj} {v':Value} {p:Nat} (h:MsAt w mb ρ C V s) (g4:(w.alloc O).grownBy w4 V.ot.ownBlock) (q4:QAt w4 96 v' (s.oth.map V.ptr++[V.ptr p])) (b4:v'.ownBlock=V.ot.ownBlock∨∃ g,v'.ownBlock=some g∧(w.alloc O).heap.size≤g) :
  MsAt (w4.setCell ⟨mb,7,none⟩ v') mb (newR w.heap.size ρ v' .oth) C { V with ot:=v' } { s with oth:=s.oth++[p] }∧MsGo V { V with ot:=v' } ρ (newR w.heap.size ρ v' .oth) w (w4.setCell ⟨mb,7,none⟩ v'):=by
 have hst:=h.oth (fun x=>x)
 have fr:=fr_app (k:=7) (v':=v') h.rb.1 hst.2 g4
 have kp:=MsIf.keep h fr (by rw [newR_old h.rb.2];exact h.rb.1)
 have nm:v'.ownBlock≠some mb:=by
  rcases b4 with e|⟨g,e,hg⟩
  ·rw [e];intro x;have:=hst.2 mb x;rw [h.rb.1] at this;cases this
  ·have hsz:(w.alloc O).heap.size=w.heap.size+1:=by simp
   have:=h.rb.2
   rw [e];intro x;injection x with x;omega
 have hbm:w4.heap[mb]?=some (.cells (V.mach s) 102):=by
  have hsz:(w.alloc O).heap.size=w.heap.size+1:=by simp
  have hlt:=h.rb.2
  rw [g4.block mb (by omega) (fun e=>by have:=hst.2 mb e.symm;rw [h.rb.1] at this;cases this),Below.heap_alloc _ _ _ hlt]
  exact h.blk (fun x=>x)
 have out:∀ r,r≠.mach->r≠.oth->¬ Two .oth r:=fun r h1 h2 x=>x.elim h1 h2
 refine⟨⟨fun _=>?_,kp.rb,fun _=>kp.code (out _ (by simp) (by simp)),fun _=>kp.brs (out _ (by simp) (by simp)),fun _=>kp.vars (out _ (by simp) (by simp)),fun _=>kp.chans (out _ (by simp) (by simp)),fun _=>kp.stack (out _ (by simp) (by simp)),fun _=>kp.urg (out _ (by simp) (by simp)),fun _=>⟨?_,ro_app hst.2 (fun g hg=>hst.1.lt hg) b4 (rfl:w4=w4)⟩,fun _=>kp.slp (out _ (by simp) (by simp)),fun _=>kp.out (out _ (by simp) (by simp)),fun i p hp _=>kp.proc i p hp (out _ (by simp) (by simp)),fun i p hp _=>kp.opn i p hp (out _ (by simp) (by simp)),fun c x hx _=>kp.num c x hx (out _ (by simp) (by simp)),kp.lens⟩,fr.weak (junk_of (by simp)),List.prefix_rfl⟩
 ·exact at_setCell hbm 7 v'
 ·have e:(s.oth++[p]).map V.ptr=s.oth.map V.ptr++[V.ptr p]:=by simp
  show QAt _ _ v' ((s.oth++[p]).map V.ptr)
  rw [e]
  exact q4.frame (fun g hg=>Below.heap_setCell _ _ _ _ (fun x=>nm (by rw [hg];exact congrArg some x)))
set_option maxRecDepth 20000 in
set_option maxHeartbeats 2000000 in
theorem madd_oth (p:Nat) (w:World) (h:MsAt w mb ρ C V s) (hn:s.oth.length+1≤1000000000000) :
  Calls Tryz.prog 216 #[.pointer (some ⟨mb,7,none⟩),V.ptr p] w fun e w'=>e=.returned (.tuple #[])∧∃ ρ' v',MsAt w' mb ρ' C { V with ot:=v' } { s with oth:=s.oth++[p] }∧MsGo V { V with ot:=v' } ρ ρ' w w':=by
 have c4:w.cell? ⟨mb,7,none⟩=some V.ot:=cell_at (h.blk (fun x=>x)) 7
 have q:=h.oth (fun x=>x)
 obtain⟨va,cc,hv⟩:=q.1.len
 have hbm:=h.blk (fun x=>x)
 have hlt:=h.rb.2
 have law:∀ (w4:World),(w.alloc (.cells #[V.ptr p] 96)).grownBy w4 V.ot.ownBlock->w4.heap[mb]?=some (.cells (V.mach s) 102):=by
  intro w4 g4
  have hsz:(w.alloc (.cells #[V.ptr p] 96)).heap.size=w.heap.size+1:=by simp
  rw [g4.block mb (by omega) (fun e=>by have:=q.2 mb e.symm;rw [h.rb.1] at this;cases this),Below.heap_alloc _ _ _ hlt]
  exact hbm
 have fin:∀ (v':Value) (w4:World),QAt w4 96 v' (s.oth.map V.ptr++[V.ptr p])->(w.alloc (.cells #[V.ptr p] 96)).grownBy w4 V.ot.ownBlock->(v'.ownBlock=V.ot.ownBlock∨∃ g,v'.ownBlock=some g∧(w.alloc (.cells #[V.ptr p] 96)).heap.size≤g)->∃ ρ' v'',MsAt (w4.setCell ⟨mb,7,none⟩ v') mb ρ' C { V with ot:=v'' } { s with oth:=s.oth++[p] }∧MsGo V { V with ot:=v'' } ρ ρ' w (w4.setCell ⟨mb,7,none⟩ v'):=fun v' w4 q4 g4 b4=>⟨_,_,mline_oth h g4 q4 b4⟩
 have qa:QAt (w.alloc (.cells #[V.ptr p] 96)) 96 V.ot (s.oth.map V.ptr):=q.1.frame (fun g hg=>Below.heap_alloc _ _ _ (q.1.lt hg))
 rw [hv] at c4
 have Law:=hide law;have Fin:=hide fin;have Qa:=hide qa;have Hv:=hide hv
 clear h q hbm law fin qa hv
 rw [List.length_map] at c4 Hv
 unfold MV.ptr ptrB at Law Fin Qa ⊢
 generalize hs2:({ s with oth:=s.oth++[p] }:MS)=s2 at *
 clear hs2
 generalize V.pb.getD p 0=pb at *
 generalize hxs:s.oth.map (fun i=>Value.pointer (some ⟨V.pb.getD i 0,0,none⟩))=xs at *
 have hxl:xs.length=s.oth.length:=by rw [<-hxs,List.length_map]
 have Hxl:=hide hxl
 clear hxs hxl
 go_enter Tryz.func216,Tryz.ntmps216
 go_wp2_with (at_builtin;refine wpList_appendQ Tryz.underlying98 ptrInfo' rfl (by decide) rfl _ _ rfl (.slice va s.oth.length cc) xs rfl (by rw [<-Hv.out];exact Qa.out) ⟨w.heap.size,0,none⟩ 1 (.pointer (some ⟨pb,0,none⟩)) rfl (by exact cell_at (at_new w _) 0) rfl (by rw [Hxl.out];exact hn) ?_;intro v' w4 q4 g4 b4;obtain⟨va',vc',hv'⟩:=q4.len;subst hv';rw [<-Hv.out] at g4 b4;have hb4:=Law.out _ g4;have y4:w4.cell? ⟨mb,7,none⟩=some (.slice va s.oth.length cc):=(by rw [<-Hv.out];exact cell_at hb4 7);have z4:∀ i,w4.frozen? ⟨mb,i,none⟩=false:=(fun i=>frozen_at hb4 i);have R:=hide (Fin.out _ _ q4 g4 b4);clear q4 g4 b4 hb4)
 go_end0
 refine⟨rfl,?_⟩
 have:=R.out
 rw [List.length_append,List.length_singleton] at this
 exact this
theorem goOn_is {p:Nat} {x:PPr} (hp:s.procs[p]?=some x):s.goOn p=if x.urg=true then { s.setPr p { x with told:=0 } with urg:=s.urg++[p] } else { s.setPr p { x with told:=0 } with oth:=s.oth++[p] }:=by
 have hlt:p<s.procs.length:=(List.getElem?_eq_some_iff.1 hp).1
 unfold MS.goOn
 rw [pr_get hp]
 have e:(s.setPr p { x with told:=0 }).pr p={ x with told:=0 }:=pr_get (by show (s.procs.set p _)[p]?=_;rw [List.getElem?_set_self hlt])
 dsimp only
 rw [e]
 rfl
set_option maxRecDepth 20000 in
set_option maxHeartbeats 2000000 in
theorem mgoOn_any {p:Nat} {x:PPr} (hp:s.procs[p]?=some x) (w:World) (h:MsAt w mb ρ C V s) (hu:s.urg.length+1≤1000000000000) (ho:s.oth.length+1≤1000000000000) :
  Calls Tryz.prog 196 #[V.ptr p] w fun e w'=>e=.returned (.tuple #[])∧MsPost mb C ρ V w (s.goOn p) w':=by
 have q:=h.proc p x hp (fun x=>x)
 have d0:w.cell? ⟨V.pb.getD p 0,0,none⟩=some (.pointer (some ⟨mb,0,none⟩)):=cell_at q.1 0
 have d2:w.cell? ⟨V.pb.getD p 0,2,none⟩=some (.bool x.urg):=cell_at q.1 2
 have d6:w.cell? ⟨V.pb.getD p 0,6,none⟩=some (toldV x.told (V.pb.getD p 0)):=cell_at q.1 6
 have z3:∀ i,w.frozen? ⟨V.pb.getD p 0,i,none⟩=false:=fun i=>frozen_at q.1 i
 have fin:=mproc_set h hp 6 .nilFunc (x':={ x with told:=0 }) rfl rfl
 have hp2:(s.setPr p { x with told:=0 }).procs[p]?=some { x with told:=0 }:=by
  have hlt:p<s.procs.length:=(List.getElem?_eq_some_iff.1 hp).1
  show (s.procs.set p _)[p]?=_
  rw [List.getElem?_set_self hlt]
 have q2:=fin.1.proc p _ hp2 (fun x=>x)
 have e0:(w.setCell ⟨V.pb.getD p 0,6,none⟩ .nilFunc).cell? ⟨V.pb.getD p 0,0,none⟩=some (.pointer (some ⟨mb,0,none⟩)):=cell_at q2.1 0
 have e2:(w.setCell ⟨V.pb.getD p 0,6,none⟩ .nilFunc).cell? ⟨V.pb.getD p 0,2,none⟩=some (.bool x.urg):=cell_at q2.1 2
 have U:=hide (madd_urg p _ fin.1 hu)
 have O:=hide (madd_oth p _ fin.1 ho)
 rw [goOn_is hp]
 have Fr:=hide fin.2
 clear h q q2 hp hp2 fin
 unfold MV.ptr ptrB at U O ⊢
 have U':Hid (Calls Tryz.prog 216 #[.pointer (some ⟨mb,6,none⟩),.pointer (some ⟨V.pb.getD p 0,0,none⟩)] (w.setCell ⟨V.pb.getD p 0,6,none⟩ .nilFunc) fun e w'=>e=.returned (.tuple #[])∧∃ ρ' v',MsAt w' mb ρ' C { V with ur:=v' } { s.setPr p { x with told:=0 } with urg:=s.urg++[p] }∧MsGo V { V with ur:=v' } ρ ρ' (w.setCell ⟨V.pb.getD p 0,6,none⟩ .nilFunc) w'):=U
 have O':Hid (Calls Tryz.prog 216 #[.pointer (some ⟨mb,7,none⟩),.pointer (some ⟨V.pb.getD p 0,0,none⟩)] (w.setCell ⟨V.pb.getD p 0,6,none⟩ .nilFunc) fun e w'=>e=.returned (.tuple #[])∧∃ ρ' v',MsAt w' mb ρ' C { V with ot:=v' } { s.setPr p { x with told:=0 } with oth:=s.oth++[p] }∧MsGo V { V with ot:=v' } ρ ρ' (w.setCell ⟨V.pb.getD p 0,6,none⟩ .nilFunc) w'):=O
 clear U O
 by_cases hx:x.urg=true
 ·rw [if_pos hx]
  rw [hx] at d2 e2
  clear hx O'
  generalize ({ s.setPr p { x with told:=0 } with urg:=s.urg++[p] }:MS)=s2 at *
  generalize toldV x.told (V.pb.getD p 0)=tv at *
  generalize V.pb.getD p 0=pb at *
  have RS:∀ (a:Addr) (w:World) (m:Mode),(store a Value.nilFunc m).run Tryz.prog w=stored Tryz.prog w a Value.nilFunc m:=fun a w m=>run_store Tryz.prog w a _ m rfl
  go_enter Tryz.func196,Tryz.ntmps196
  go_wp2_with (go_at_call 216;refine U'.out.mono ?_;rintro e w2 ⟨rfl,ρ2,v2,k2,f2⟩;have K2:=hide k2;have F2:=hide (Fr.out.trans f2);clear k2 f2)
  go_end0
  exact⟨rfl,_,_,K2.out,F2.out⟩
 ·rw [if_neg hx]
  have hx':x.urg=false:=by simpa using hx
  rw [hx'] at d2 e2
  clear hx hx' U'
  generalize ({ s.setPr p { x with told:=0 } with oth:=s.oth++[p] }:MS)=s2 at *
  generalize toldV x.told (V.pb.getD p 0)=tv at *
  generalize V.pb.getD p 0=pb at *
  have RS:∀ (a:Addr) (w:World) (m:Mode),(store a Value.nilFunc m).run Tryz.prog w=stored Tryz.prog w a Value.nilFunc m:=fun a w m=>run_store Tryz.prog w a _ m rfl
  go_enter Tryz.func196,Tryz.ntmps196
  go_wp2_with (go_at_call 216;refine O'.out.mono ?_;rintro e w2 ⟨rfl,ρ2,v2,k2,f2⟩;have K2:=hide k2;have F2:=hide (Fr.out.trans f2);clear k2 f2)
  go_end0
  exact⟨rfl,_,_,K2.out,F2.out⟩
end
end Go.Proofs.YtnhidaamfnjdjaaGreatDoor
namespace Go.Proofs.YtnhidaamfnjdjaaGreatDoor
open Go.RowKit Go.Maps
section
variable {mb : Nat} {ρ : Nat → MR} {C : CM} {V : MV} {s : MS}
theorem misWoken_any {p:Nat} {x:PPr} (hp:s.procs[p]?=some x) (a b:Int) (w:World) (h:MsAt w mb ρ C V s) (hu:s.urg.length+1≤1000000000000) (ho:s.oth.length+1≤1000000000000) :
  Calls Tryz.prog 161 #[V.ptr p,.int .i64 a,.int .i64 b] w fun e w'=>e=.returned (.tuple #[])∧MsPost mb C ρ V w (s.goOn p) w':=by
 have G:=hide (mgoOn_any hp w h hu ho)
 clear h hp
 unfold MV.ptr ptrB at G ⊢
 go_enter Tryz.func161,Tryz.ntmps161
 go_wp2_with (go_at_call 196;refine G.out.mono ?_;rintro e w2 ⟨rfl,p2⟩;have P2:=hide p2;clear p2)
 go_end0
 exact⟨rfl,P2.out⟩
set_option maxHeartbeats 2000000 in
theorem mwait_any {p:Nat} {x:PPr} (hc:s.cur=some p) (hp:s.procs[p]?=some x) (how:Nat) (hh:how=1∨how=2) (w:World) (h:MsAt w mb ρ C V s) :
  Calls Tryz.prog 160 #[.pointer (some ⟨mb,0,none⟩),toldV how (V.pb.getD p 0)] w fun e w'=>e=.returned (.tuple #[])∧MsAt w' mb ρ C V (s.wait p how)∧MsGo V V ρ ρ w w':=by
 have c5:w.cell? ⟨mb,5,none⟩=some (V.ptrO s.cur):=cell_at (h.blk (fun x=>x)) 5
 have q:=h.proc p x hp (fun x=>x)
 have d6:w.cell? ⟨V.pb.getD p 0,6,none⟩=some (toldV x.told (V.pb.getD p 0)):=cell_at q.1 6
 have z3:∀ i,w.frozen? ⟨V.pb.getD p 0,i,none⟩=false:=fun i=>frozen_at q.1 i
 have fin:=mproc_set h hp 6 (toldV how (V.pb.getD p 0)) (x':={ x with told:=how }) rfl rfl
 have e:s.wait p how=(s.setPr p { x with told:=how }).leave:=by unfold MS.wait;rw [pr_get hp]
 rw [e]
 have Fin:=hide fin
 rw [hc] at c5
 unfold MV.ptrO at c5
 simp only [Option.map_some] at c5
 clear h q fin hc hp e
 generalize s.setPr p { x with told:=how }=s1 at *
 generalize toldV x.told (V.pb.getD p 0)=old at *
 have RS:∀ (a:Addr) (w:World) (m:Mode) (fn:Fn) (u v:Array Value),(store a (Value.func fn u v) m).run Tryz.prog w=stored Tryz.prog w a (Value.func fn u v) m:=fun a w m fn u v=>run_store Tryz.prog w a _ m rfl
 have ht:∃ fn u v,toldV how (V.pb.getD p 0)=.func fn u v:=by
  rcases hh with rfl|rfl
  ·exact⟨_,_,_,rfl⟩
  ·exact⟨_,_,_,rfl⟩
 obtain⟨fn,fu,fv,ht⟩:=ht
 rw [ht] at Fin ⊢
 clear ht hh
 generalize V.pb.getD p 0=pb at *
 go_enter Tryz.func160,Tryz.ntmps160
 go_wp2_with (go_at_call 167;refine (mleave_any _ Fin.out.1).mono ?_;rintro e w1 ⟨rfl,k1,f1⟩;have K1:=hide k1;have F1:=hide (Fin.out.2.trans f1);clear k1 f1)
 go_end0
 exact⟨rfl,K1.out,F1.out⟩
set_option maxHeartbeats 2000000 in
theorem mjoin_any {p:Nat} {x:PPr} (hc:s.cur=some p) (hp:s.procs[p]?=some x) (a:Int) (w:World) (h:MsAt w mb ρ C V s) :
  Calls Tryz.prog 106 #[.pointer (some ⟨mb,0,none⟩),.int .i64 a] w fun e w'=>e=.returned (.tuple #[])∧MsPost mb C ρ V w (if x.below > 0 then (s.jump p a).wait p 1 else s.jump p a) w':=by
 have J:=hide (mjump_any hc hp a w h)
 have ej:s.jump p a=s.setPr p { x with at_:=a }:=by unfold MS.jump;rw [pr_get hp]
 have hp2:(s.jump p a).procs[p]?=some { x with at_:=a }:=by
  have hlt:p<s.procs.length:=(List.getElem?_eq_some_iff.1 hp).1
  rw [ej]
  show (s.procs.set p _)[p]?=_
  rw [List.getElem?_set_self hlt]
 have hc2:(s.jump p a).cur=some p:=by rw [ej];exact hc
 have more:∀ w1,MsAt w1 mb ρ C V (s.jump p a)->w1.cell? ⟨mb,5,none⟩=some (.pointer (some ⟨V.pb.getD p 0,0,none⟩))∧w1.cell? ⟨V.pb.getD p 0,5,none⟩=some (.int .i64 x.below)∧Calls Tryz.prog 160 #[.pointer (some ⟨mb,0,none⟩),toldV 1 (V.pb.getD p 0)] w1 fun e w'=>e=.returned (.tuple #[])∧MsAt w' mb ρ C V ((s.jump p a).wait p 1)∧MsGo V V ρ ρ w1 w':=by
  intro w1 k1
  have c5:w1.cell? ⟨mb,5,none⟩=some (V.ptrO (s.jump p a).cur):=cell_at (k1.blk (fun x=>x)) 5
  rw [hc2] at c5
  exact⟨c5,cell_at (k1.proc p _ hp2 (fun x=>x)).1 5,mwait_any hc2 hp2 1 (.inl rfl) w1 k1⟩
 have More:=hide more
 clear h hc hp ej hp2 hc2 more
 generalize s.jump p a=s1 at *
 generalize V.pb.getD p 0=pb at *
 by_cases hb:x.below > 0
 ·rw [if_pos hb]
  go_enter Tryz.func106,Tryz.ntmps106
  go_wp2_with (first|(go_at_call 102;refine J.out.mono ?_;rintro e w1 ⟨rfl,k1,f1⟩;obtain⟨c5,d5,wt⟩:=More.out _ k1;have Wt:=hide wt;have F1:=hide f1;clear k1 f1 wt)|(go_at_call 160;refine Wt.out.mono ?_;rintro e w2 ⟨rfl,k2,f2⟩;have K2:=hide k2;have F2:=hide (F1.out.trans f2);clear k2 f2))
  go_end0
  exact⟨rfl,_,_,K2.out,F2.out⟩
 ·rw [if_neg hb]
  go_enter Tryz.func106,Tryz.ntmps106
  go_wp2_with (go_at_call 102;refine J.out.mono ?_;rintro e w1 ⟨rfl,k1,f1⟩;obtain⟨c5,d5,wt⟩:=More.out _ k1;have K1:=hide k1;have F1:=hide f1;clear k1 f1 wt)
  go_end0
  exact⟨rfl,_,_,K1.out,F1.out⟩
end
end Go.Proofs.YtnhidaamfnjdjaaGreatDoor
namespace Go.Proofs.YtnhidaamfnjdjaaGreatDoor
open Go.RowKit Go.Maps
theorem idx_at {α:Type}:∀ (l:List α) (F:Nat->α->List Value),(∀ c x,(F c x).length=3)->∀ (c:Nat) (x:α),l[c]?=some x->∀ j,j<3->((l.mapIdx F).flatten)[c * 3+j]?=(F c x)[j]?
 | [],_,_,c,x,h,_,_=>by simp at h
 | a :: l,F,hF,c,x,h,j,hj=>by
  rw [List.mapIdx_cons,List.flatten_cons]
  cases c with
  | zero =>
   simp at h
   subst h
   rw [List.getElem?_append_left (by rw [hF];omega)]
   congr 1
   omega
  | succ c =>
   rw [List.getElem?_append_right (by rw [hF];omega),hF]
   have:=idx_at l (fun i=>F (i+1)) (fun i x=>hF (i+1) x) c x (by simpa using h) j hj
   rw [<-this]
   congr 1
   omega
theorem idx_same {α:Type}:∀ (l:List α) (F F':Nat->α->List Value),(∀ i x,F' i x=F i x)->l.mapIdx F'=l.mapIdx F
 | [],_,_,_=>rfl
 | a :: l,F,F',h=>by
  rw [List.mapIdx_cons,List.mapIdx_cons,h,idx_same l (fun i=>F (i+1)) (fun i=>F' (i+1)) (fun i x=>h (i+1) x)]
theorem idx_set {α:Type}:∀ (l:List α) (F F':Nat->α->List Value),(∀ c x,(F c x).length=3)->∀ (c:Nat) (x x':α),l[c]?=some x->(∀ i y,i≠c->F' i y=F i y)->∀ (j:Nat) (v:Value),j<3->F' c x'=(F c x).set j v->((l.mapIdx F).flatten).set (c * 3+j) v=((l.set c x').mapIdx F').flatten
 | [],_,_,_,c,x,_,h,_,_,_,_,_=>by simp at h
 | a :: l,F,F',hF,c,x,x',h,hne,j,v,hj,hc=>by
  cases c with
  | zero =>
   simp at h
   subst h
   rw [List.set_cons_zero,List.mapIdx_cons,List.mapIdx_cons,List.flatten_cons,List.flatten_cons,hc,idx_same l (fun i=>F (i+1)) (fun i=>F' (i+1)) (fun i y=>hne (i+1) y (by omega))]
   rw [List.set_append_left _ _ (by rw [hF];omega)]
   congr 2
   omega
  | succ c =>
   rw [List.set_cons_succ,List.mapIdx_cons,List.mapIdx_cons,List.flatten_cons,List.flatten_cons,hne 0 a (by omega),List.set_append_right _ _ (by rw [hF];omega),hF]
   have:=idx_set l (fun i=>F (i+1)) (fun i=>F' (i+1)) (fun i x=>hF (i+1) x) c x x' (by simpa using h) (fun i y hi=>hne (i+1) y (by omega)) j v hj hc
   rw [<-this]
   congr 2
   omega
section
variable {mb : Nat} {ρ : Nat → MR} {C : CM} {V : MV} {s : MS}
theorem chan_len (V:MV) (c:Nat) (x:PCh):(V.chan c x).length=3:=rfl
theorem mchan_at {w:World} (h:MsAt w mb ρ C V s) {c:Nat} {x:PCh} (hx:s.chans[c]?=some x):∃ g cap,V.ch=.slice (some ⟨g,0,none⟩) s.chans.length cap∧s.chans.length≤cap∧cap≤maxLen∧w.cell? ⟨mb,3,none⟩=some (.slice (some ⟨g,0,none⟩) s.chans.length cap)∧w.cell? ⟨g,c * 3,none⟩=some (V.nv.getD c (.slice none 0 0))∧w.cell? ⟨g,c * 3+1,none⟩=some (V.ptrO x.rd)∧w.cell? ⟨g,c * 3+2,none⟩=some (V.ptrO x.wr)∧(∀ i,w.frozen? ⟨g,i,none⟩=false)∧g≠mb:=by
 have q:=h.chans (fun x=>x)
 have hlt:c<s.chans.length:=(List.getElem?_eq_some_iff.1 hx).1
 obtain⟨g,cap,cur,hv,hg,h1,h2,h3,h4⟩:=row_pos q.1 (by omega)
 have at_:∀ j,j<3->∀ u,(V.chan c x)[j]?=some u->w.cell? ⟨g,c * 3+j,none⟩=some u:=by
  intro j hj u hu
  refine ownsRow_cell (n:=s.chans.length * 3) hg h4 ?_
  unfold MV.chans
  rw [idx_at s.chans (fun c x=>V.chan c x) (chan_len V) c x hx j hj]
  exact hu
 refine⟨g,cap,hv,h1,h2,by rw [<-hv];exact cell_at (h.blk (fun x=>x)) 3,at_ 0 (by omega) _ rfl,at_ 1 (by omega) _ rfl,at_ 2 (by omega) _ rfl,fun i=>frozen_at hg i,fun e=>?_⟩
 have:=q.2 g (by rw [hv];rfl)
 rw [e,h.rb.1] at this
 cases this
theorem mchan_set {w:World} (h:MsAt w mb ρ C V s) {c g cap:Nat} {x x':PCh} (hx:s.chans[c]?=some x) (hv:V.ch=.slice (some ⟨g,0,none⟩) s.chans.length cap) (j:Nat) (hj:j<3) (v:Value) (hc:V.chan c x'=(V.chan c x).set j v) (hn:x'.nums=x.nums) :
  MsAt (w.setCell ⟨g,c * 3+j,none⟩ v) mb ρ C V { s with chans:=s.chans.set c x' }∧MsGo V V ρ ρ w (w.setCell ⟨g,c * 3+j,none⟩ v):=by
 have q:=h.chans (fun x=>x)
 have hg:ρ g=.chans:=q.2 g (by rw [hv];rfl)
 have f:MsFr (fun r=>r=.chans) ρ ρ w (w.setCell ⟨g,c * 3+j,none⟩ v):=⟨rfl,rfl,rfl,by simp,fun k _ hA=>⟨Below.heap_setCell _ _ _ _ (fun e=>hA (by have:k=g:=e;rw [this];exact hg)),rfl⟩⟩
 have k:=MsIf.keep h f h.rb.1
 have hlt:c<s.chans.length:=(List.getElem?_eq_some_iff.1 hx).1
 refine⟨⟨fun _=>k.blk (by simp),k.rb,fun _=>k.code (by simp),fun _=>k.brs (by simp),fun _=>k.vars (by simp),fun _=>⟨?_,q.2⟩,fun _=>k.stack (by simp),fun _=>k.urg (by simp),fun _=>k.oth (by simp),fun _=>k.slp (by simp),fun _=>k.out (by simp),fun i p hp _=>k.proc i p hp (by simp),fun i p hp _=>k.opn i p hp (by simp),fun i y hy _=>?_,by
  have:=k.lens
  simpa using this⟩,f.weak (fun r hr e=>by rw [hr] at e;cases e),List.prefix_rfl⟩
 ·have q1:=q.1
  rw [hv] at q1 ⊢
  have q2:=row_set q1 (c * 3+j) v
  have e:V.chans (s.chans.set c x')=(V.chans s.chans).set (c * 3+j) v:=(idx_set s.chans (fun c x=>V.chan c x) (fun c x=>V.chan c x) (chan_len V) c x x' hx (fun _ _ _=>rfl) j v hj hc).symm
  show World.ownsRow _ 0 163 3 _ (s.chans.set c x').length (V.chans (s.chans.set c x'))
  rw [e,List.length_set]
  exact q2
 ·have hy:(s.chans.set c x')[i]?=some y:=hy
  by_cases hic:c=i
  ·subst hic
   rw [List.getElem?_set_self hlt] at hy
   have e:=Option.some.inj hy
   subst e
   have:=k.num c x hx (by simp)
   rw [hn]
   exact this
  ·rw [List.getElem?_set_ne hic] at hy
   exact k.num i y hy (by simp)
end
end Go.Proofs.YtnhidaamfnjdjaaGreatDoor
namespace Go.Proofs.YtnhidaamfnjdjaaGreatDoor
open Go.RowKit Go.Maps
section
variable {mb : Nat} {ρ : Nat → MR} {C : CM} {V : MV} {s : MS}
theorem nv_set (V:MV) (c:Nat) (v:Value) (hc:c<V.nv.length):(V.nv.set c v).getD c (.slice none 0 0)=v:=by
 rw [List.getD,List.getElem?_set_self hc];rfl
theorem nv_ne (V:MV) (c i:Nat) (v:Value) (h:i≠c):(V.nv.set c v).getD i (.slice none 0 0)=V.nv.getD i (.slice none 0 0):=by
 rw [List.getD,List.getD,List.getElem?_set_ne (fun e=>h e.symm)]
theorem mnum_put {w w4:World} {ρ':Nat->MR} (h:MsAt w mb ρ C V s) {c g cap:Nat} {x:PCh} {v':Value} {l:List Int} (hx:s.chans[c]?=some x) (hv:V.ch=.slice (some ⟨g,0,none⟩) s.chans.length cap)
  (fr:MsFr (fun r=>r=.chans∨r=.num c) ρ ρ' w (w4.setCell ⟨g,c * 3,none⟩ v')) (hm:ρ' mb=.mach) (hg4:w4.heap[g]?=w.heap[g]?) (rg:ρ' g=.chans) (q4:QAt w4 3 v' (l.map intV)) (r4:Ro' ρ' v' (.num c)) :
  MsAt (w4.setCell ⟨g,c * 3,none⟩ v') mb ρ' C { V with nv:=V.nv.set c v' } { s with chans:=s.chans.set c { x with nums:=l } }:=by
 have q:=h.chans (fun x=>x)
 have k:=MsIf.keep h fr hm
 have hlt:c<s.chans.length:=(List.getElem?_eq_some_iff.1 hx).1
 have hnl:c<V.nv.length:=by rw [h.lens.2.2];exact hlt
 have no:∀ r:MR,r≠.chans->r≠.num c->¬ (r=.chans∨r=.num c):=fun r h1 h2 x=>x.elim h1 h2
 have gv:v'.ownBlock≠some g:=fun e=>by have:=r4 g e;rw [rg] at this;cases this
 refine⟨fun _=>k.blk (no _ (by simp) (by simp)),k.rb,fun _=>k.code (no _ (by simp) (by simp)),fun _=>k.brs (no _ (by simp) (by simp)),fun _=>k.vars (no _ (by simp) (by simp)),fun _=>⟨?_,fun g' hg'=>?_⟩,fun _=>k.stack (no _ (by simp) (by simp)),fun _=>k.urg (no _ (by simp) (by simp)),fun _=>k.oth (no _ (by simp) (by simp)),fun _=>k.slp (no _ (by simp) (by simp)),fun _=>k.out (no _ (by simp) (by simp)),fun i p hp _=>k.proc i p hp (no _ (by simp) (by simp)),fun i p hp _=>k.opn i p hp (no _ (by simp) (by simp)),fun i y hy _=>?_,by
  have:=k.lens
  simpa using this⟩
 ·have eg:∀ g',V.ch.ownBlock=some g'->g=g':=fun g' hg'=>by
   rw [hv] at hg'
   simpa [Value.ownBlock] using hg'
  have q1:=ownsRow_frame (w':=w4) q.1 (fun g' hg'=>by rw [<-eg g' hg'];exact hg4)
  rw [hv] at q1
  have q2:=row_set q1 (c * 3+0) v'
  have e:({ V with nv:=V.nv.set c v' }:MV).chans (s.chans.set c { x with nums:=l })=(V.chans s.chans).set (c * 3+0) v':=(idx_set s.chans (fun c x=>V.chan c x) (fun i y=>({ V with nv:=V.nv.set c v' }:MV).chan i y) (chan_len V) c x { x with nums:=l } hx (fun i y hi=>by
   show [(V.nv.set c v').getD i (.slice none 0 0),V.ptrO y.rd,V.ptrO y.wr]=_
   rw [nv_ne V c i v' hi]
   rfl) 0 v' (by omega) (by
   show [(V.nv.set c v').getD c (.slice none 0 0),V.ptrO x.rd,V.ptrO x.wr]=_
   rw [nv_set V c v' hnl]
   rfl)).symm
  show World.ownsRow _ 0 163 3 V.ch (s.chans.set c { x with nums:=l }).length (({ V with nv:=V.nv.set c v' }:MV).chans (s.chans.set c { x with nums:=l }))
  rw [e,List.length_set,hv]
  exact q2
 ·have:g=g':=by
   have h2:V.ch.ownBlock=some g':=hg'
   rw [hv] at h2
   simpa [Value.ownBlock] using h2
  rw [<-this];exact rg
 ·have hy:(s.chans.set c { x with nums:=l })[i]?=some y:=hy
  show QAt _ _ ((V.nv.set c v').getD i (.slice none 0 0)) _∧Ro' ρ' ((V.nv.set c v').getD i (.slice none 0 0)) _
  by_cases hic:c=i
  ·subst hic
   rw [List.getElem?_set_self hlt] at hy
   have e:=Option.some.inj hy
   subst e
   rw [nv_set V c v' hnl]
   exact⟨q4.frame (fun g' hg'=>Below.heap_setCell _ _ _ _ (fun e=>gv (by rw [hg'];exact congrArg some e))),r4⟩
  ·rw [List.getElem?_set_ne hic] at hy
   rw [nv_ne V c i v' (fun e=>hic e.symm)]
   exact k.num i y hy (no _ (by simp) (by simp;exact fun e=>hic e.symm))
theorem mnum_app {w w4:World} {O:Obj} (h:MsAt w mb ρ C V s) {c g cap:Nat} {x:PCh} {v':Value} {n:Int} (hx:s.chans[c]?=some x) (hv:V.ch=.slice (some ⟨g,0,none⟩) s.chans.length cap)
  (g4:(w.alloc O).grownBy w4 (V.nv.getD c (.slice none 0 0)).ownBlock) (q4:QAt w4 3 v' (x.nums.map intV++[intV n])) (b4:v'.ownBlock=(V.nv.getD c (.slice none 0 0)).ownBlock∨∃ g,v'.ownBlock=some g∧(w.alloc O).heap.size≤g) :
  MsAt (w4.setCell ⟨g,c * 3,none⟩ v') mb (newR w.heap.size ρ v' (.num c)) C { V with nv:=V.nv.set c v' } { s with chans:=s.chans.set c { x with nums:=x.nums++[n] } }∧MsGo V { V with nv:=V.nv.set c v' } ρ (newR w.heap.size ρ v' (.num c)) w (w4.setCell ⟨g,c * 3,none⟩ v'):=by
 have q:=h.chans (fun x=>x)
 have hn:=h.num c x hx (fun x=>x)
 have hgr:ρ g=.chans:=q.2 g (by rw [hv];rfl)
 have hsz:(w.alloc O).heap.size=w.heap.size+1:=by simp
 have hgl:g<w.heap.size:=own_lt q.1 (by rw [hv];rfl)
 have fr:MsFr (fun r=>r=.chans∨r=.num c) ρ (newR w.heap.size ρ v' (.num c)) w (w4.setCell ⟨g,c * 3,none⟩ v'):=by
  refine⟨g4.os,g4.tape,g4.output,?_,fun k hk hA=>⟨?_,newR_old hk⟩⟩
  ·have:=g4.size
   have h2:(w4.setCell ⟨g,c * 3,none⟩ v').heap.size=w4.heap.size:=by simp
   omega
  ·rw [Below.heap_setCell _ _ _ _ (fun e=>hA (.inl (by have:k=g:=e;rw [this];exact hgr))),g4.block k (by omega) (fun e=>hA (.inr (hn.2 k e.symm)))]
   exact Below.heap_alloc _ _ _ hk
 refine⟨mnum_put h hx hv fr (by rw [newR_old h.rb.2];exact h.rb.1) ?_ (by rw [newR_old hgl];exact hgr) (by simpa using q4) (ro_app hn.2 (fun g hg=>hn.1.lt hg) b4 (rfl:w4=w4)),fr.weak (fun r hr e=>by rcases hr with hr|hr <;> (rw [hr] at e;cases e)),List.prefix_rfl⟩
 rw [g4.block g (by omega) (fun e=>by have:=hn.2 g e.symm;rw [hgr] at this;cases this)]
 exact Below.heap_alloc _ _ _ hgl
theorem mnum_tail {w:World} (h:MsAt w mb ρ C V s) {c g cap:Nat} {x:PCh} {v':Value} {l:List Int} (hx:s.chans[c]?=some x) (hv:V.ch=.slice (some ⟨g,0,none⟩) s.chans.length cap) (q4:QAt w 3 v' (l.map intV)) (r4:Ro' ρ v' (.num c)) :
  MsAt (w.setCell ⟨g,c * 3,none⟩ v') mb ρ C { V with nv:=V.nv.set c v' } { s with chans:=s.chans.set c { x with nums:=l } }∧MsGo V { V with nv:=V.nv.set c v' } ρ ρ w (w.setCell ⟨g,c * 3,none⟩ v'):=by
 have q:=h.chans (fun x=>x)
 have hgr:ρ g=.chans:=q.2 g (by rw [hv];rfl)
 have fr:MsFr (fun r=>r=.chans∨r=.num c) ρ ρ w (w.setCell ⟨g,c * 3,none⟩ v'):=⟨rfl,rfl,rfl,by simp,fun k hk hA=>⟨Below.heap_setCell _ _ _ _ (fun e=>hA (.inl (by have:k=g:=e;rw [this];exact hgr))),rfl⟩⟩
 exact⟨mnum_put h hx hv fr h.rb.1 rfl hgr q4 r4,fr.weak (fun r hr e=>by rcases hr with hr|hr <;> (rw [hr] at e;cases e)),List.prefix_rfl⟩
end
end Go.Proofs.YtnhidaamfnjdjaaGreatDoor
namespace Go.Proofs.YtnhidaamfnjdjaaGreatDoor
open Go.RowKit Go.Maps
section
variable {mb : Nat} {ρ : Nat → MR} {C : CM} {V : MV} {s : MS}
theorem ov_set (V:MV) (p:Nat) (v:Value) (hp:p<V.ov.length):(V.ov.set p v).getD p (.slice none 0 0)=v:=by
 rw [List.getD,List.getElem?_set_self hp];rfl
theorem ov_ne (V:MV) (p i:Nat) (v:Value) (h:i≠p):(V.ov.set p v).getD i (.slice none 0 0)=V.ov.getD i (.slice none 0 0):=by
 rw [List.getD,List.getD,List.getElem?_set_ne (fun e=>h e.symm)]
theorem mopn_put {w w4:World} {ρ':Nat->MR} (h:MsAt w mb ρ C V s) {p:Nat} {x:PPr} {v':Value} {l:List (Int×Int×Int)} (hp:s.procs[p]?=some x)
  (fr:MsFr (fun r=>r=.proc p∨r=.opn p) ρ ρ' w (w4.setCell ⟨V.pb.getD p 0,4,none⟩ v')) (hm:ρ' mb=.mach) (hb4:w4.heap[V.pb.getD p 0]?=w.heap[V.pb.getD p 0]?) (rp:ρ' (V.pb.getD p 0)=.proc p) (o4:w4.ownsRow 0 207 3 v' l.length (waysV l)) (r4:Ro' ρ' v' (.opn p)) :
  MsAt (w4.setCell ⟨V.pb.getD p 0,4,none⟩ v') mb ρ' C { V with ov:=V.ov.set p v' } (s.setPr p { x with opn:=l }):=by
 have q:=h.proc p x hp (fun x=>x)
 have k:=MsIf.keep h fr hm
 have hlt:p<s.procs.length:=(List.getElem?_eq_some_iff.1 hp).1
 have hol:p<V.ov.length:=by rw [h.lens.2.1];exact hlt
 have no:∀ r:MR,r≠.proc p->r≠.opn p->¬ (r=.proc p∨r=.opn p):=fun r h1 h2 x=>x.elim h1 h2
 have gv:v'.ownBlock≠some (V.pb.getD p 0):=fun e=>by have:=r4 _ e;rw [rp] at this;cases this
 have get:∀ i y,(s.setPr p { x with opn:=l }).procs[i]?=some y->(i=p∧y={ x with opn:=l })∨(i≠p∧s.procs[i]?=some y):=by
  intro i y hy
  have hy:(s.procs.set p { x with opn:=l })[i]?=some y:=hy
  by_cases hip:p=i
  ·subst hip
   rw [List.getElem?_set_self hlt] at hy
   exact .inl ⟨rfl,(Option.some.inj hy).symm⟩
  ·rw [List.getElem?_set_ne hip] at hy
   exact .inr ⟨fun e=>hip e.symm,hy⟩
 refine⟨fun _=>k.blk (no _ (by simp) (by simp)),k.rb,fun _=>k.code (no _ (by simp) (by simp)),fun _=>k.brs (no _ (by simp) (by simp)),fun _=>k.vars (no _ (by simp) (by simp)),fun _=>k.chans (no _ (by simp) (by simp)),fun _=>k.stack (no _ (by simp) (by simp)),fun _=>k.urg (no _ (by simp) (by simp)),fun _=>k.oth (no _ (by simp) (by simp)),fun _=>k.slp (no _ (by simp) (by simp)),fun _=>k.out (no _ (by simp) (by simp)),fun i y hy _=>?_,fun i y hy _=>?_,fun c z hz _=>k.num c z hz (no _ (by simp) (by simp)),by
  have:=k.lens
  simpa [MS.setPr] using this⟩
 ·show _=some (Obj.cells (MV.proc _ mb i y) 108)∧_
  rcases get i y hy with ⟨rfl,rfl⟩|⟨hne,hy⟩
  ·refine⟨?_,rp⟩
   have e:MV.proc { V with ov:=V.ov.set i v' } mb i { x with opn:=l }=(V.proc mb i x).setIfInBounds 4 v':=by
    show #[ptrB mb,V.ptrO x.above,.bool x.urg,intV x.at_,(V.ov.set i v').getD i (.slice none 0 0),intV x.below,toldV x.told (V.pb.getD i 0)]=_
    rw [ov_set V i v' hol]
    rfl
   rw [e]
   exact at_setCell (by rw [hb4];exact q.1) 4 v'
  ·have e:MV.proc { V with ov:=V.ov.set p v' } mb i y=V.proc mb i y:=by
    show #[ptrB mb,V.ptrO y.above,.bool y.urg,intV y.at_,(V.ov.set p v').getD i (.slice none 0 0),intV y.below,toldV y.told (V.pb.getD i 0)]=_
    rw [ov_ne V p i v' hne]
    rfl
   rw [e]
   exact k.proc i y hy (no _ (by simpa using hne) (by simp))
 ·show World.ownsRow _ 0 _ 3 ((V.ov.set p v').getD i (.slice none 0 0)) _ _∧Ro' ρ' ((V.ov.set p v').getD i (.slice none 0 0)) _
  rcases get i y hy with ⟨rfl,rfl⟩|⟨hne,hy⟩
  ·rw [ov_set V i v' hol]
   exact⟨ownsRow_frame o4 (fun g' hg'=>Below.heap_setCell _ _ _ _ (fun e=>gv (by rw [hg'];exact congrArg some e))),r4⟩
  ·rw [ov_ne V p i v' hne]
   exact k.opn i y hy (no _ (by simp) (by simpa using hne))
theorem mopn_cut {w:World} (h:MsAt w mb ρ C V s) {p:Nat} {x:PPr} (hp:s.procs[p]?=some x) {a:Option Addr} {cc:Nat} (hv:V.ov.getD p (.slice none 0 0)=.slice a x.opn.length cc) :
  MsAt (w.setCell ⟨V.pb.getD p 0,4,none⟩ (.slice a 0 cc)) mb ρ C { V with ov:=V.ov.set p (.slice a 0 cc) } (s.setPr p { x with opn:=[] })∧MsGo V { V with ov:=V.ov.set p (.slice a 0 cc) } ρ ρ w (w.setCell ⟨V.pb.getD p 0,4,none⟩ (.slice a 0 cc)):=by
 have q:=h.proc p x hp (fun x=>x)
 have o:=h.opn p x hp (fun x=>x)
 rw [hv] at o
 have fr:MsFr (fun r=>r=.proc p∨r=.opn p) ρ ρ w (w.setCell ⟨V.pb.getD p 0,4,none⟩ (.slice a 0 cc)):=⟨rfl,rfl,rfl,by simp,fun k hk hA=>⟨Below.heap_setCell _ _ _ _ (fun e=>hA (.inl (by have:k=V.pb.getD p 0:=e;rw [this];exact q.2))),rfl⟩⟩
 refine⟨mopn_put h hp fr h.rb.1 rfl q.2 ?_ (fun g hg=>?_),fr.weak (fun r hr e=>by rcases hr with hr|hr <;> (rw [hr] at e;cases e)),List.prefix_rfl⟩
 ·refine⟨rfl,?_⟩
  rcases o.1.2 with ⟨hn,_⟩|⟨g,cap,cur,hn,hb,hg,h1,h2,h3,h4⟩
  ·simp only [Value.slice.injEq] at hn
   obtain⟨rfl,_,rfl⟩:=hn
   exact .inl ⟨rfl,rfl⟩
  ·simp only [Value.slice.injEq] at hn
   obtain⟨rfl,_,rfl⟩:=hn
   exact .inr ⟨g,_,cur,rfl,hb,hg,Nat.zero_le _,h2,h3,by simp [waysV]⟩
 ·refine o.2 g ?_
  cases a with
  | none=>simp [Value.ownBlock] at hg
  | some ad=>simpa [Value.ownBlock] using hg
theorem follow_is {p:Nat} {x:PPr} (hp:s.procs[p]?=some x) (br:Int×Int×Int) (n:Int):s.follow p br n=({ s with vars:=s.vars.set br.2.1.toNat n }:MS).setPr p { x with at_:=br.2.2,opn:=[] }:=by
 unfold MS.follow
 rw [pr_get hp]
theorem MsAt.alloc {w:World} (h:MsAt w mb ρ C V s) (O:Obj):MsAt (w.alloc O) mb ρ C V s∧MsGo V V ρ ρ w (w.alloc O) :=
 ⟨MsIf.keepA h ⟨rfl,rfl,rfl,by simp,fun g hg _=>⟨Below.heap_alloc _ _ _ hg,rfl⟩⟩ h.rb.1,⟨rfl,rfl,rfl,by simp,fun g hg _=>⟨Below.heap_alloc _ _ _ hg,rfl⟩⟩,List.prefix_rfl⟩
set_option maxRecDepth 20000 in
set_option maxHeartbeats 4000000 in
theorem mfollow_any {p:Nat} {x:PPr} (hp:s.procs[p]?=some x) (br:Int×Int×Int) (i:Nat) (hi:br.2.1=i) (hil:i<s.vars.length) (hvl:s.vars.length≤1000000000000) (n:Int) (w:World) (h:MsAt w mb ρ C V s) :
  Calls Tryz.prog 163 #[V.ptr p,.agg #[.int .i64 br.1,.int .i64 br.2.1,.int .i64 br.2.2],.int .i64 n] w fun e w'=>e=.returned (.tuple #[])∧MsPost mb C ρ V w (s.follow p br n) w':=by
 have e1:s.follow p br n=(({ s with vars:=s.vars.set i n }:MS).setPr p { x with at_:=br.2.2 }).setPr p { x with at_:=br.2.2,opn:=[] }:=by
  rw [follow_is hp,hi]
  unfold MS.setPr
  simp
 rw [e1,hi]
 have ha:=h.alloc (.cells #[.int .i64 br.1,.int .i64 (i:Int),.int .i64 br.2.2] 207)
 have hB:=at_new w (.cells #[.int .i64 br.1,.int .i64 (i:Int),.int .i64 br.2.2] 207)
 have hgl:∀ g,V.va.ownBlock=some g->g<w.heap.size:=fun g hg=>(h.vars (fun x=>x)).1.lt hg
 have hpl:V.pb.getD p 0<w.heap.size:=lt_of_at (h.proc p x hp (fun x=>x)).1
 have Fa:=hide ha.2
 have h:=ha.1
 unfold MV.ptr ptrB
 clear ha e1
 go_enter Tryz.func163,Tryz.ntmps163
 have H:=hide h;have HB:=hide hB;have Hgl:=hide hgl;have Hp:=hide hp
 have b1:(w.alloc (.cells #[.int .i64 br.1,.int .i64 (i:Int),.int .i64 br.2.2] 207)).cell? ⟨w.heap.size,1,none⟩=some (.int .i64 (i:Int)):=cell_at hB 1
 have q:=h.proc p x hp (fun x=>x)
 have c2:(w.alloc (.cells #[.int .i64 br.1,.int .i64 (i:Int),.int .i64 br.2.2] 207)).cell? ⟨mb,2,none⟩=some V.va:=cell_at (h.blk (fun x=>x)) 2
 have d0:(w.alloc (.cells #[.int .i64 br.1,.int .i64 (i:Int),.int .i64 br.2.2] 207)).cell? ⟨V.pb.getD p 0,0,none⟩=some (.pointer (some ⟨mb,0,none⟩)):=cell_at q.1 0
 have qv:=h.vars (fun x=>x)
 have hl:(s.vars.map intV).length=s.vars.length:=List.length_map ..
 obtain⟨g,off,cap,hv,h1,h2,hcell,hfz,hlt⟩:=qv.1.shape (by omega)
 have hx:=hcell i (.int .i64 (s.vars.getD i 0)) (by rw [List.getElem?_map,getD_lt _ _ _ hil,List.getElem?_eq_getElem hil];rfl)
 rw [hl] at hv h1
 have hgB:g<w.heap.size:=Hgl.out g (by rw [hv];rfl)
 have m1:=mvars_set h hv i n
 have M1:=hide m1.1.drew;have F1:=hide (Fa.out.trans m1.2.drew)
 have HB1:Hid (((w.alloc (.cells #[.int .i64 br.1,.int .i64 (i:Int),.int .i64 br.2.2] 207)).setCell ⟨g,off+i,none⟩ (intV n)).drew.heap[w.heap.size]?=some (.cells #[.int .i64 br.1,.int .i64 (i:Int),.int .i64 br.2.2] 207)):=at_drew (at_setCell_other hB (by omega) _ _)
 rw [hv] at c2
 clear h hp qv hcell hv hl m1 hgl hB q H HB Hgl hlt hgB hpl
 unfold intV at M1 F1 HB1
 generalize s.vars.getD i 0=old at *
 generalize hpb:V.pb.getD p 0=pb at *
 have Hpb:=hide hpb
 clear hpb
 go_wp2_with fail
 go_region
 all_goals
  generalize ((w.alloc (.cells #[.int .i64 br.1,.int .i64 (i:Int),.int .i64 br.2.2] 207)).setCell ⟨g,off+i,none⟩ (.int .i64 n)).drew=w1 at *
  have b2:w1.cell? ⟨w.heap.size,2,none⟩=some (.int .i64 br.2.2):=cell_at HB1.out 2
  have hp1:({ s with vars:=s.vars.set i n }:MS).procs[p]?=some x:=Hp.out
  have q1:=M1.out.proc p x hp1 (fun x=>x)
  have d3:w1.cell? ⟨pb,3,none⟩=some (.int .i64 x.at_):=by rw [<-Hpb.out];exact cell_at q1.1 3
  have z1:∀ k,w1.frozen? ⟨pb,k,none⟩=false:=fun k=>by rw [<-Hpb.out];exact frozen_at q1.1 k
  have m2:=mproc_set M1.out hp1 3 (.int .i64 br.2.2) (x':={ x with at_:=br.2.2 }) rfl rfl
  have hp2:(({ s with vars:=s.vars.set i n }:MS).setPr p { x with at_:=br.2.2 }).procs[p]?=some { x with at_:=br.2.2 }:=by
   have hlt:p<s.procs.length:=(List.getElem?_eq_some_iff.1 Hp.out).1
   show (s.procs.set p _)[p]?=_
   rw [List.getElem?_set_self hlt]
  have q2:=m2.1.proc p _ hp2 (fun x=>x)
  have o2:=m2.1.opn p _ hp2 (fun x=>x)
  obtain⟨oa,oc,hov⟩:=ownsRow_len o2.1
  have hov:V.ov.getD p (.slice none 0 0)=.slice oa x.opn.length oc:=hov
  have m3:=mopn_cut m2.1 hp2 hov
  have d4:(w1.setCell ⟨pb,3,none⟩ (.int .i64 br.2.2)).cell? ⟨pb,4,none⟩=some (.slice oa x.opn.length oc):=by rw [<-hov,<-Hpb.out];exact cell_at q2.1 4
  have z2:∀ k,(w1.setCell ⟨pb,3,none⟩ (.int .i64 br.2.2)).frozen? ⟨pb,k,none⟩=false:=fun k=>by rw [<-Hpb.out];exact frozen_at q2.1 k
  have d5:w1.cell? ⟨pb,4,none⟩=some (.slice oa x.opn.length oc):=by rw [<-hov,<-Hpb.out];exact cell_at q1.1 4
  have F3:=hide ((F1.out.trans m2.2).trans m3.2)
  have M3:=hide m3.1
  rw [Hpb.out] at M3 F3
  have o3:=(m2.1.opn p _ hp2 (fun x=>x)).1
  have hol:x.opn.length≤oc:=by
   rcases o3.2 with ⟨hn,hz⟩|⟨g',cap',cur',hn,_,_,h1',_⟩
   ·have hz:x.opn.length=0:=hz
    omega
   ·have hn:V.ov.getD p (.slice none 0 0)=_:=hn
    rw [hov] at hn
    simp only [Value.slice.injEq] at hn
    obtain⟨_,_,rfl⟩:=hn
    exact h1'
  clear m2 m3 hp1 hp2 q1 q2 o2 o3 hov M1 F1 HB1 Hp b1 c2 d0 hx
  clear Hpb
  generalize x.opn.length=ol at *
  go_wp2_with fail
  go_end0
  exact⟨rfl,_,_,M3.out,F3.out⟩
end
end Go.Proofs.YtnhidaamfnjdjaaGreatDoor
namespace Go.Proofs.YtnhidaamfnjdjaaGreatDoor
open Go.RowKit Go.Maps
section
variable {mb : Nat} {ρ : Nat → MR} {C : CM} {V : MV} {s : MS}
theorem mcanBeRead_any {c g cap:Nat} {x:PCh} (hx:s.chans[c]?=some x) (hv:V.ch=.slice (some ⟨g,0,none⟩) s.chans.length cap) (w:World) (h:MsAt w mb ρ C V s) :
  Calls Tryz.prog 162 #[.pointer (some ⟨g,c * 3,none⟩)] w fun e w'=>e=.returned (.bool (decide (0<x.nums.length)))∧w'=w:=by
 obtain⟨g',cap',hv',h1,h2,c3,d0,d1,d2,fz,ne⟩:=mchan_at h hx
 rw [hv] at hv'
 simp only [Value.slice.injEq,Option.some.injEq,Addr.mk.injEq,and_true,true_and] at hv'
 obtain⟨rfl,rfl⟩:=hv'
 obtain⟨na,nc,hn⟩:=(h.num c x hx (fun x=>x)).1.len
 rw [List.length_map] at hn
 rw [hn] at d0
 clear h hx hv hn
 go_enter Tryz.func162,Tryz.ntmps162
 go_wp2_with fail
 go_ret
 refine⟨?_,rfl⟩
 congr 3
theorem ch_get {c:Nat} {x:PCh} (hx:s.chans[c]?=some x):s.ch (c:Int)=x:=by
 unfold MS.ch
 rw [Int.toNat_natCast,List.getD,hx]
 rfl
theorem setCh_nat (s:MS) (c:Nat) (x:PCh):s.setCh (c:Int) x={ s with chans:=s.chans.set c x }:=by
 unfold MS.setCh
 rw [Int.toNat_natCast]
set_option maxRecDepth 20000 in
set_option maxHeartbeats 4000000 in
theorem mreceive_none {c g cap:Nat} {x:PCh} {n:Int} {l:List Int} (hx:s.chans[c]?=some x) (hv:V.ch=.slice (some ⟨g,0,none⟩) s.chans.length cap) (hn:x.nums=n :: l) (hw:x.wr=none) (w:World) (h:MsAt w mb ρ C V s) (hl:l.length≤20000000000000) :
  Calls Tryz.prog 164 #[.pointer (some ⟨g,c * 3,none⟩)] w fun e w'=>e=.returned (.int .i64 n)∧MsPost mb C ρ V w (s.receive c).2 w':=by
 have hlt:c<s.chans.length:=(List.getElem?_eq_some_iff.1 hx).1
 obtain⟨g',cap',hv',h1,h2,c3,d0,d1,d2,fz,ne⟩:=mchan_at h hx
 rw [hv] at hv'
 simp only [Value.slice.injEq,Option.some.injEq,Addr.mk.injEq,and_true,true_and] at hv'
 obtain⟨rfl,rfl⟩:=hv'
 have q:=h.num c x hx (fun x=>x)
 rw [hn] at q
 obtain⟨gn,off,nc,hnv,hn1,hn2,hcell,hfz,hnl⟩:=q.1.shape (by simp)
 simp only [List.map_cons,List.length_cons,List.length_map] at hnv hn1
 have hx0:w.cell? ⟨gn,off,none⟩=some (.int .i64 n):=hcell 0 _ rfl
 have q1:QAt w 3 (.slice (some ⟨gn,off,none⟩) ((l.map intV).length+1) nc) (intV n :: l.map intV):=by
  have:=q.1
  rw [hnv] at this
  simpa using this
 have qt:=q1.tail
 rw [List.length_map] at qt
 have q0:nc≤1->QAt w 3 (.slice (some ⟨gn,off,none⟩) l.length 0) (l.map intV):=by
  intro hnc
  have hl0:l=[]:=List.length_eq_zero_iff.1 (by omega)
  rcases q1 with ⟨hb,_⟩|⟨g',off',cap',cur,hb,hg,_,hm,hsz,_⟩
  ·simp at hb
  ·simp only [Value.slice.injEq,Option.some.injEq,Addr.mk.injEq,and_true] at hb
   obtain⟨⟨rfl,rfl⟩,_,_⟩:=hb
   subst hl0
   exact .inr ⟨gn,off,0,cur,rfl,hg,Nat.zero_le _,Nat.zero_le _,by omega,rfl⟩
 have fin0:=fun hnc=>mnum_tail h hx hv (q0 hnc) (fun g' hg'=>q.2 g' (by rw [hnv];exact hg'))
 have fin:=mnum_tail h hx hv qt (fun g' hg'=>q.2 g' (by rw [hnv];exact hg'))
 have q3:=mchan_at fin.1 (c:=c) (x:={ x with nums:=l }) (by show (s.chans.set c _)[c]?=_;rw [List.getElem?_set_self hlt])
 obtain⟨g3,cap3,hv3,_,_,_,_,_,e2,_,_⟩:=q3
 have hv3:V.ch=.slice (some ⟨g3,0,none⟩) (s.chans.set c { x with nums:=l }).length cap3:=hv3
 rw [hv] at hv3
 simp only [Value.slice.injEq,Option.some.injEq,Addr.mk.injEq,and_true] at hv3
 obtain⟨rfl,_,rfl⟩:=hv3
 have hr:(s.receive c).2={ s with chans:=s.chans.set c { x with nums:=l } }:=by
  unfold MS.receive
  rw [ch_get hx,hn,setCh_nat]
  have e:({ s with chans:=s.chans.set c { x with nums:=(n :: l).tail } }:MS).ch (c:Int)={ x with nums:=l }:=ch_get (by show (s.chans.set c _)[c]?=_;rw [List.getElem?_set_self hlt];rfl)
  dsimp only
  rw [e]
  simp only [hw]
  rfl
 rw [hr]
 have Fin:=hide fin;have Fin0:=hide fin0
 have e2:_=some (V.ptrO x.wr):=e2
 rw [hw] at e2 d2
 unfold MV.ptrO at e2 d2
 simp only [Option.map_none] at e2 d2
 rw [hnv] at d0
 clear h hx hv hn q q1 qt fin hcell hnv hr hw q0 fin0
 go_enter Tryz.func164,Tryz.ntmps164
 go_wp2_with fail
 ·go_ret
  exact⟨rfl,_,_,(Fin0.out (by omega)).1,(Fin0.out (by omega)).2⟩
 ·go_ret
  exact⟨rfl,_,_,Fin.out.1,Fin.out.2⟩
end
end Go.Proofs.YtnhidaamfnjdjaaGreatDoor
namespace Go.Proofs.YtnhidaamfnjdjaaGreatDoor
open Go.RowKit Go.Maps
section
variable {mb : Nat} {ρ : Nat → MR} {C : CM} {V : MV} {s : MS}
theorem recv_facts {w:World} (h:MsAt w mb ρ C V s) {c g cap p:Nat} {x:PCh} {y:PPr} {v':Value} {l:List Int} (hx:s.chans[c]?=some x) (hv:V.ch=.slice (some ⟨g,0,none⟩) s.chans.length cap) (q4:QAt w 3 v' (l.map intV)) (r4:Ro' ρ v' (.num c)) (hw:x.wr=some p) (hp:s.procs[p]?=some y) :
  (w.setCell ⟨g,c * 3,none⟩ v').cell? ⟨g,c * 3+2,none⟩=some (V.ptr p)∧(∀ k,(w.setCell ⟨g,c * 3,none⟩ v').frozen? ⟨g,k,none⟩=false)∧((w.setCell ⟨g,c * 3,none⟩ v').setCell ⟨g,c * 3+2,none⟩ (.pointer none)).cell? ⟨V.pb.getD p 0,6,none⟩=some (toldV y.told (V.pb.getD p 0)) ∧
  MsAt ((w.setCell ⟨g,c * 3,none⟩ v').setCell ⟨g,c * 3+2,none⟩ (.pointer none)) mb ρ C { V with nv:=V.nv.set c v' } { s with chans:=(s.chans.set c { x with nums:=l }).set c { x with nums:=l,wr:=none } }∧MsGo V { V with nv:=V.nv.set c v' } ρ ρ w ((w.setCell ⟨g,c * 3,none⟩ v').setCell ⟨g,c * 3+2,none⟩ (.pointer none)):=by
 have hlt:c<s.chans.length:=(List.getElem?_eq_some_iff.1 hx).1
 have m1:=mnum_tail h hx hv q4 r4
 have hx1:({ s with chans:=s.chans.set c { x with nums:=l } }:MS).chans[c]?=some { x with nums:=l }:=by
  show (s.chans.set c _)[c]?=_
  rw [List.getElem?_set_self hlt]
 obtain⟨g3,cap3,hv3,_,_,_,_,_,e2,fz,_⟩:=mchan_at m1.1 hx1
 have hv3:V.ch=.slice (some ⟨g3,0,none⟩) (s.chans.set c { x with nums:=l }).length cap3:=hv3
 have hv4:=hv3
 rw [hv] at hv4
 simp only [Value.slice.injEq,Option.some.injEq,Addr.mk.injEq,and_true] at hv4
 obtain⟨rfl,_,rfl⟩:=hv4
 have m2:=mchan_set m1.1 hx1 hv3 2 (by omega) (.pointer none) (x':={ x with nums:=l,wr:=none }) rfl rfl
 have q:=m2.1.proc p y hp (fun x=>x)
 refine⟨?_,fz,cell_at q.1 6,m2.1,m1.2.trans m2.2⟩
 rw [e2]
 show some (V.ptrO x.wr)=_
 rw [hw]
 rfl
theorem tell_one {p:Nat} {y:PPr} (hp:s.procs[p]?=some y) (hy:y.told=1) (c n:Int):s.tell p c n=s.goOn p:=by
 unfold MS.tell
 rw [pr_get hp,hy]
 rfl
set_option maxRecDepth 20000 in
set_option maxHeartbeats 4000000 in
theorem mreceive_some {c g cap p:Nat} {x:PCh} {y:PPr} {n:Int} {l:List Int} (hx:s.chans[c]?=some x) (hv:V.ch=.slice (some ⟨g,0,none⟩) s.chans.length cap) (hn:x.nums=n :: l) (hw:x.wr=some p) (hp:s.procs[p]?=some y) (hy:y.told=1) (w:World) (h:MsAt w mb ρ C V s) (hl:l.length≤20000000000000) (hu:s.urg.length+1≤1000000000000) (ho:s.oth.length+1≤1000000000000) :
  Calls Tryz.prog 164 #[.pointer (some ⟨g,c * 3,none⟩)] w fun e w'=>e=.returned (.int .i64 n)∧MsPost mb C ρ V w (s.receive c).2 w':=by
 have hlt:c<s.chans.length:=(List.getElem?_eq_some_iff.1 hx).1
 obtain⟨g',cap',hv',h1,h2,c3,d0,d1,d2,fz,ne⟩:=mchan_at h hx
 rw [hv] at hv'
 simp only [Value.slice.injEq,Option.some.injEq,Addr.mk.injEq,and_true,true_and] at hv'
 obtain⟨rfl,rfl⟩:=hv'
 have q:=h.num c x hx (fun x=>x)
 rw [hn] at q
 obtain⟨gn,off,nc,hnv,hn1,hn2,hcell,hfz,hnl⟩:=q.1.shape (by simp)
 simp only [List.map_cons,List.length_cons,List.length_map] at hnv hn1
 have hx0:w.cell? ⟨gn,off,none⟩=some (.int .i64 n):=hcell 0 _ rfl
 have q1:QAt w 3 (.slice (some ⟨gn,off,none⟩) ((l.map intV).length+1) nc) (intV n :: l.map intV):=by
  have:=q.1
  rw [hnv] at this
  simpa using this
 have hr:(s.receive c).2=({ s with chans:=(s.chans.set c { x with nums:=l }).set c { x with nums:=l,wr:=none } }:MS).goOn p:=by
  unfold MS.receive
  rw [ch_get hx,hn,setCh_nat]
  have e:({ s with chans:=s.chans.set c { x with nums:=(n :: l).tail } }:MS).ch (c:Int)={ x with nums:=l }:=ch_get (by show (s.chans.set c _)[c]?=_;rw [List.getElem?_set_self hlt];rfl)
  dsimp only
  rw [e]
  simp only [hw]
  rw [setCh_nat]
  exact tell_one (y:=y) (by exact hp) hy 0 0
 have r0:∀ (k m:Nat),Ro' ρ (.slice (some ⟨gn,k,none⟩) l.length m) (.num c):=fun k m g' hg'=>q.2 g' (by rw [hnv];exact hg')
 have facts:∀ v',QAt w 3 v' (l.map intV)->Ro' ρ v' (.num c)->(w.setCell ⟨g,c * 3,none⟩ v').cell? ⟨g,c * 3+2,none⟩=some (V.ptr p)∧(∀ k,(w.setCell ⟨g,c * 3,none⟩ v').frozen? ⟨g,k,none⟩=false)∧((w.setCell ⟨g,c * 3,none⟩ v').setCell ⟨g,c * 3+2,none⟩ (.pointer none)).cell? ⟨V.pb.getD p 0,6,none⟩=some (toldV y.told (V.pb.getD p 0))∧Calls Tryz.prog 161 #[V.ptr p,.int .i64 0,.int .i64 0] ((w.setCell ⟨g,c * 3,none⟩ v').setCell ⟨g,c * 3+2,none⟩ (.pointer none)) fun e w'=>e=.returned (.tuple #[])∧MsPost mb C ρ V w (s.receive c).2 w':=by
  intro v' qv rv
  obtain⟨f1,f2,f3,f4,f5⟩:=recv_facts h hx hv qv rv hw hp
  refine⟨f1,f2,f3,?_⟩
  refine Calls.mono (misWoken_any (s:={ s with chans:=(s.chans.set c { x with nums:=l }).set c { x with nums:=l,wr:=none } }) (V:={ V with nv:=V.nv.set c v' }) (p:=p) (x:=y) hp 0 0 _ f4 hu ho) ?_
  rintro e w' ⟨he,ρ',V',k',f'⟩
  exact⟨he,ρ',V',by rw [hr];exact k',f5.trans f'⟩
 have d2':w.cell? ⟨g,c * 3+2,none⟩=some (V.ptr p):=by rw [d2,hw];rfl
 have qp:=h.proc p y hp (fun x=>x)
 have d6:w.cell? ⟨V.pb.getD p 0,6,none⟩=some (toldV y.told (V.pb.getD p 0)):=cell_at qp.1 6
 have hpg:V.pb.getD p 0≠g:=fun e=>by
  have h3:=(h.chans (fun x=>x)).2 g (by rw [hv];rfl)
  have h4:=qp.2
  rw [e,h3] at h4
  cases h4
 rw [hnv] at d0
 by_cases hnc:nc=1
 ·subst hnc
  have hl0:l=[]:=List.length_eq_zero_iff.1 (by omega)
  obtain⟨f1,f2,f3,f4⟩:=facts (.slice (some ⟨gn,off,none⟩) l.length 0) (by
   rcases q1 with ⟨hb,_⟩|⟨g',off',cap',cur,hb,hg,_,hm,hsz,_⟩
   ·simp at hb
   ·simp only [Value.slice.injEq,Option.some.injEq,Addr.mk.injEq,and_true] at hb
    obtain⟨⟨rfl,rfl⟩,_,_⟩:=hb
    subst hl0
    exact .inr ⟨gn,off,0,cur,rfl,hg,Nat.zero_le _,Nat.zero_le _,by omega,rfl⟩) (r0 off 0)
  subst hl0
  rw [hy] at f3 d6
  have F4:=hide f4
  unfold MV.ptr ptrB at f1 F4 d2'
  unfold toldV ptrB at f3 d6
  simp only [if_true] at f3 d6
  clear h hx hv hn q q1 hcell hnv hr hw hp facts r0 d2 hy f4 qp
  generalize (s.receive (c:Int)).2=s2 at *
  generalize V.pb.getD p 0=pb at *
  go_enter Tryz.func164,Tryz.ntmps164
  go_wp2_with (go_at_call 161;refine F4.out.mono ?_;rintro e w2 ⟨rfl,p2⟩;have P2:=hide p2;clear p2)
  go_ret
  exact⟨rfl,P2.out⟩
 ·have qt:=q1.tail
  rw [List.length_map] at qt
  obtain⟨f1,f2,f3,f4⟩:=facts (.slice (some ⟨gn,off+1,none⟩) l.length (nc - 1)) qt (r0 (off+1) (nc - 1))
  rw [hy] at f3 d6
  have F4:=hide f4
  unfold MV.ptr ptrB at f1 F4 d2'
  unfold toldV ptrB at f3 d6
  simp only [if_true] at f3 d6
  clear h hx hv hn q q1 hcell hnv hr hw hp facts r0 d2 hy f4 qp qt
  generalize (s.receive (c:Int)).2=s2 at *
  generalize V.pb.getD p 0=pb at *
  go_enter Tryz.func164,Tryz.ntmps164
  go_wp2_with (go_at_call 161;refine F4.out.mono ?_;rintro e w2 ⟨rfl,p2⟩;have P2:=hide p2;clear p2)
  go_ret
  exact⟨rfl,P2.out⟩
end
end Go.Proofs.YtnhidaamfnjdjaaGreatDoor
