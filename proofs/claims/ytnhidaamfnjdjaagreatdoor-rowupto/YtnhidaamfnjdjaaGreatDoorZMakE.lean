import Derived.Test.YtnhidaamfnjdjaaGreatDoorZMakA
namespace Go.Proofs.YtnhidaamfnjdjaaGreatDoor
open Go.RowKit Go.Maps
theorem bel_alloc (w:World) (x:Obj):Below w.heap.size w (w.alloc x):=⟨rfl,rfl,rfl,by simp,fun k hk=>Below.heap_alloc _ _ _ hk⟩
theorem own_new {w:World} {t:TypeId} (cs:List Value) (hc:cs.length≤maxLen):(w.alloc (.cells cs.toArray t)).ownsRow 0 t 1 (.slice (some ⟨w.heap.size,0,none⟩) cs.length cs.length) cs.length cs :=
 ⟨by omega,.inr ⟨w.heap.size,cs.length,cs.toArray,rfl,Nat.zero_le _,at_new w _,Nat.le_refl _,hc,by simp,by simp⟩⟩
theorem caim_at {lo b:Nat} {s:CM} {vc vb:Value} (w:World) (h:MkAt w lo b s vc vb) (i:Nat) (hi:i<s.code.length) (hfew:s.code.length≤1000000) :
  Calls Tryz.prog 191 #[.pointer (some ⟨b,0,none⟩),.slice (some ⟨w.heap.size,0,none⟩) 1 1] (w.alloc (.cells #[.int .i64 i] 3)) fun e w'=>e=.returned (.tuple #[])∧MkPost lo b vc vb w (s.aim i) w':=by
 have hg:=h.grown (bel_alloc w (.cells #[.int .i64 i] 3))
 have hb:=lt_of_at h.blk
 refine (caim_any _ hg.1 [i] (some ⟨w.heap.size,0,none⟩) 1 (own_new [.int .i64 i] (by show 1≤maxLen;decide)) (fun g hgg=>?_) (fun k hk=>by simp at hk;subst hk;exact hi) hfew (by show 1≤1000000;decide)).mono ?_
 ·simp [Value.ownBlock] at hgg
  subst hgg
  exact⟨by simp,by omega,fun e=>by have:=own_lt h.code e;omega,fun e=>by have:=own_lt h.br e;omega⟩
 ·rintro e w' ⟨rfl,vc',vb',k1,f1⟩
  exact⟨rfl,vc',vb',k1,hg.2.trans f1⟩
theorem branchM_nil {n:PNode} (h:n.expr=.nil) (s:CM):branchM n s=({ s with br:=s.br++[(n.cd,n.nd,0)] }:CM).add 15 (s.br.length:Int):=by
 unfold branchM
 rw [h]
theorem branchM_full {n:PNode} (h:fullE n.expr=true) (s:CM):branchM n s=(((exprM n.expr { s with br:=s.br++[(n.cd,n.nd,0)] }).add 18 0).add 15 (s.br.length:Int)).aim (exprM n.expr { s with br:=s.br++[(n.cd,n.nd,0)] }).code.length:=by
 unfold branchM
 cases he:n.expr with
 | nil=>rw [he] at h;cases h
 | num _=>rfl
 | var _ _=>rfl
 | pair _ _ _=>rfl
set_option maxRecDepth 20000 in
set_option maxHeartbeats 4000000 in
theorem cbranch_any {lo b nb:Nat} {s:CM} {vc vb:Value} {n:PNode} {m:NM} (w:World) (h:MkAt w lo b s vc vb) (hn:NdAt w lo nb n m) (hf:n.expr=.nil∨fullE n.expr=true) (hc:s.code.length+sizeE n.expr+2≤900000) (hb:s.br.length+1≤1000000) :
  Calls Tryz.prog 192 #[.pointer (some ⟨b,0,none⟩),.pointer (some ⟨nb,0,none⟩)] w fun e w'=>e=.returned (.int .i64 s.br.length)∧MkPost lo b vc vb w (branchM n s) w':=by
 have c1:=h.c1
 obtain⟨va,ac,e1⟩:=ownsRow_len h.br
 subst e1
 have d3:w.cell? ⟨nb,3,none⟩=some (.int .i64 n.nd):=cell_at hn.cells 3
 have d5:w.cell? ⟨nb,5,none⟩=some (.int .i64 n.cd):=cell_at hn.cells 5
 have hlb:=lt_of_at h.blk
 have hnl:=hn.lt
 have hlo:=h.lb
 have H:=hide h;have Hn:=hide hn
 have law:∀ (w4:World),(w.alloc (.cells #[.int .i64 n.cd,.int .i64 n.nd,.int .i64 0] 207)).drew.grownBy w4 (Value.slice va s.br.length ac).ownBlock ->
   w4.heap[b]?=some (.cells (makCells s vc (.slice va s.br.length ac)) 159):=by
  intro w4 g4
  rw [g4.block b (by show b<(w.alloc _).heap.size;simp;omega) (fun e=>H.out.bb e.symm)]
  show (w.alloc _).heap[b]?=_
  rw [Below.heap_alloc _ _ _ hlb]
  exact H.out.blk
 have Law:=hide law
 clear law h hn
 have Hf:Hid (n.expr=.nil∨fullE n.expr=true):=hf
 have el2:=(exprM_len n.expr { s with br:=s.br++[(n.cd,n.nd,0)] }).1
 have Hx:=hide (fun hf=>branchM_nil (n:=n) hf s)
 have Hy:=hide (fun hf=>branchM_full (n:=n) hf s)
 generalize hs1:({ s with br:=s.br++[(n.cd,n.nd,0)] }:CM)=s1 at *
 have el:s1.code.length=s.code.length:=by rw [<-hs1]
 generalize branchM n s=sf at *
 generalize hs2:exprM n.expr s1=s2 at *
 have ee:((s2.add 18 0).add 15 (s.br.length:Int)).code.length=s2.code.length+2:=by simp [CM.add]
 have ea:(s2.add 18 0).code.length=s2.code.length+1:=by simp [CM.add]
 have Hs1:=hide hs1;have Hs2:=hide hs2;have Ee:=hide ee
 have el':s1.code.length≤s.code.length:=by omega
 have el2':s2.code.length≤s1.code.length+sizeE n.expr:=by omega
 have ea':(s2.add 18 0).code.length≤s2.code.length+1:=by omega
 clear hf hs1 hs2 el el2 ea ee
 go_enter Tryz.func192,Tryz.ntmps192
 go_wp2_with fail
 go_region_law (refine step_appendM (by decide) Tryz.underlying87 wayInfo rfl (by decide) rfl _ _ rfl (.slice va s.br.length ac) s.br.length (waysV s.br) (by simp [Act.eval]) (by exact (ownsRow_frame H.out.br (fun _ _=>rfl)).alloc _) ⟨w.heap.size,0,none⟩ 1 1 (wayV (n.cd,n.nd,0)) (by simp [Act.eval]) rfl (by exact row_new _ _ rfl _ _) (wayV_one (n.cd,n.nd,0)) hb ?_;intro v' w4 o4 g4 b4;obtain⟨va',vc',rfl⟩:=ownsRow_len o4;have hv4:=Law.out _ g4;have f4:w4.cell? ⟨b,1,none⟩=some (.slice va s.br.length ac):=cell_at hv4 1;have z4:∀ i,w4.frozen? ⟨b,i,none⟩=false:=(fun i=>frozen_at hv4 i);have Fin:=hide (cway_final H.out g4 o4 b4 hv4);clear o4 g4 b4 hv4)
 all_goals
  rw [Hs1.out] at Fin
  have Nd2:=hide (Hn.out.low (Fin.out.2.low H.out))
  have q6:(w4.setCell ⟨b,1,none⟩ (.slice va' (s.br.length+1) vc')).cell? ⟨nb,6,none⟩=some (.pointer m.ve):=cell_at Nd2.out.cells 6
  rcases Hf.out with hf|hf
  ·have hr:=Nd2.out.expr
   rw [hf] at hr
   have hve:m.ve=none:=hr.2
   rw [hve] at q6
   have Hz:=hide (Hx.out hf)
   clear hr hve hf
   go_wp2_with (go_at_call 82;refine (cadd_any 15 s.br.length _ Fin.out.1 (by omega)).mono ?_;rintro e w5 ⟨rfl,p5⟩;obtain⟨vc5,vb5,k5,f5⟩:=p5;have K5:=hide k5;have F5:=hide f5;clear k5 f5)
   go_ret
   exact⟨rfl,by rw [Hz.out];exact⟨_,_,K5.out,Fin.out.2.trans F5.out⟩⟩
  ·obtain⟨c,hve,hcl⟩:=Nd2.out.expr.some_of hf
   rw [hve] at q6
   have Hz:=hide (Hy.out hf);have Hve:=hide hve;have Hf2:=hide hf
   clear hve hf
   go_wp2_with (first|(go_at_call 190;rw [<-Hve.out];refine (cexpr_any n.expr m.elo m.ehi m.ve _ s1 _ _ Nd2.out.expr Nd2.out.ehi Hf2.out Fin.out.1 (by omega)).mono ?_;rw [Hs2.out];rintro e w5 ⟨rfl,p5⟩;obtain⟨vc5,vb5,k5,f5⟩:=p5;have K5:=hide k5;have F5:=hide f5;clear k5 f5)|(go_at_call 82;refine (cadd_any 18 0 _ K5.out (by omega)).mono ?_;rintro e w6 ⟨rfl,p6⟩;obtain⟨vc6,vb6,k6,f6⟩:=p6;have K6:=hide k6;have F6:=hide f6;clear k6 f6 K5)|(go_at_call 82;refine (cadd_any 15 s.br.length _ K6.out (by omega)).mono ?_;rintro e w7 ⟨rfl,p7⟩;obtain⟨vc7,vb7,k7,f7⟩:=p7;have K7:=hide k7;have F7:=hide f7;clear k7 f7 K6)|(go_at_call 191;refine (caim_at _ K7.out s2.code.length (by have:=Ee.out;omega) (by have:=Ee.out;omega)).mono ?_;rintro e w8 ⟨rfl,p8⟩;obtain⟨vc8,vb8,k8,f8⟩:=p8;have K8:=hide k8;have F8:=hide f8;clear k8 f8))
   go_ret
   exact⟨rfl,by rw [Hz.out];exact⟨_,_,K8.out,(((Fin.out.2.trans F5.out).trans F6.out).trans F7.out).trans F8.out⟩⟩
end Go.Proofs.YtnhidaamfnjdjaaGreatDoor
namespace Go.Proofs.YtnhidaamfnjdjaaGreatDoor
open Go.RowKit Go.Maps
theorem branchM_len {n:PNode} (h:n.expr=.nil∨fullE n.expr=true) (s:CM):(branchM n s).br.length=s.br.length+1∧s.code.length+1≤(branchM n s).code.length∧(branchM n s).code.length≤s.code.length+sizeE n.expr+2:=by
 rcases h with h|h
 ·rw [branchM_nil h]
  refine⟨?_,?_,?_⟩ <;> simp [CM.add]
  omega
 ·rw [branchM_full h]
  have hl:=exprM_len n.expr { s with br:=s.br++[(n.cd,n.nd,0)] }
  simp only [CM.add,CM.aim,List.length_set,List.length_append,List.length_singleton,hl.1,hl.2.1]
  refine⟨trivial,by omega,by omega⟩
set_option maxRecDepth 20000 in
set_option maxHeartbeats 4000000 in
theorem cwrite_any {lo b nb:Nat} {s:CM} {vc vb:Value} {n:PNode} {m:NM} (w:World) (h:MkAt w lo b s vc vb) (hn:NdAt w lo nb n m) (hf:fullE n.expr=true) (hc:s.code.length+sizeE n.expr+2≤900000) :
  Calls Tryz.prog 194 #[.pointer (some ⟨b,0,none⟩),.pointer (some ⟨nb,0,none⟩)] w fun e w'=>e=.returned (.tuple #[])∧MkPost lo b vc vb w (if n.cd=2 then (exprM n.expr s).add 13 0 else (exprM n.expr s).add 14 n.cd) w':=by
 have d6:w.cell? ⟨nb,6,none⟩=some (.pointer m.ve):=cell_at hn.cells 6
 obtain⟨c,hve,hcl⟩:=hn.expr.some_of hf
 have hl:=(exprM_len n.expr s).1
 have E:=hide (cexpr_any n.expr m.elo m.ehi m.ve w s vc vb hn.expr hn.ehi hf h (by omega))
 have hn3:(exprM n.expr s).code.length+1≤1000000:=by omega
 have H:=hide h;have Hn:=hide hn
 rw [hve] at d6 E
 clear h hn hve hf hl
 generalize exprM n.expr s=s1 at *
 by_cases hcd:n.cd=2
 ·rw [if_pos hcd]
  have e1:(n.cd == 2)=true:=by simpa using hcd
  clear hcd
  go_enter Tryz.func194,Tryz.ntmps194
  go_wp2_with (first|(go_at_call 190;refine E.out.mono ?_;rintro e w5 ⟨rfl,p5⟩;obtain⟨vc5,vb5,k5,f5⟩:=p5;have q5:w5.cell? ⟨nb,5,none⟩=some (.int .i64 n.cd):=cell_at (Hn.out.low (f5.low H.out)).cells 5;have K5:=hide k5;have F5:=hide f5;clear k5 f5)|(go_at_call 82;refine (cadd_any 13 0 _ K5.out hn3).mono ?_;rintro e w6 ⟨rfl,p6⟩;obtain⟨vc6,vb6,k6,f6⟩:=p6;have K6:=hide k6;have F6:=hide f6;clear k6 f6))
  try simp only [Exit.inBlock,Exit.then]
  refine bodyPost_ret (results_none rfl _ _ _) rfl ?_
  exact⟨rfl,_,_,K6.out,F5.out.trans F6.out⟩
 ·rw [if_neg hcd]
  have e1:(n.cd == 2)=false:=by simpa using hcd
  clear hcd
  go_enter Tryz.func194,Tryz.ntmps194
  go_wp2_with (first|(go_at_call 190;refine E.out.mono ?_;rintro e w5 ⟨rfl,p5⟩;obtain⟨vc5,vb5,k5,f5⟩:=p5;have q5:w5.cell? ⟨nb,5,none⟩=some (.int .i64 n.cd):=cell_at (Hn.out.low (f5.low H.out)).cells 5;have K5:=hide k5;have F5:=hide f5;clear k5 f5)|(go_at_call 82;refine (cadd_any 14 n.cd _ K5.out hn3).mono ?_;rintro e w6 ⟨rfl,p6⟩;obtain⟨vc6,vb6,k6,f6⟩:=p6;have K6:=hide k6;have F6:=hide f6;clear k6 f6))
  go_end0
  exact⟨rfl,_,_,K6.out,F5.out.trans F6.out⟩
set_option maxRecDepth 20000 in
set_option maxHeartbeats 4000000 in
theorem cread_any {lo b nb:Nat} {s:CM} {vc vb:Value} {n:PNode} {m:NM} (w:World) (h:MkAt w lo b s vc vb) (hn:NdAt w lo nb n m) (hf:n.expr=.nil∨fullE n.expr=true) (hc:s.code.length+sizeE n.expr+3≤900000) (hb:s.br.length+1≤1000000) :
  Calls Tryz.prog 195 #[.pointer (some ⟨b,0,none⟩),.pointer (some ⟨nb,0,none⟩)] w fun e w'=>e=.returned (.tuple #[])∧MkPost lo b vc vb w (((branchM n s).add 16 0).land s.br.length) w':=by
 have E:=hide (cbranch_any w h hn hf (by omega) hb)
 have hl:=branchM_len hf s
 have hn3:(branchM n s).code.length+1≤1000000:=by omega
 have Hb:Hid (((branchM n s).add 16 0).br.length=s.br.length+1):=hl.1
 clear hl h hn hf
 generalize branchM n s=s1 at *
 go_enter Tryz.func195,Tryz.ntmps195
 go_wp2_with (first|(go_at_call 192;refine E.out.mono ?_;rintro e w5 ⟨rfl,p5⟩;obtain⟨vc5,vb5,k5,f5⟩:=p5;have K5:=hide k5;have F5:=hide f5;clear k5 f5)|(go_at_call 82;refine (cadd_any 16 0 _ K5.out hn3).mono ?_;rintro e w6 ⟨rfl,p6⟩;obtain⟨vc6,vb6,k6,f6⟩:=p6;have K6:=hide k6;have F6:=hide f6;clear k6 f6)|(go_at_call 193;refine (cland_any _ K6.out s.br.length (by have:=Hb.out;omega) (by have:=Hb.out;omega)).mono ?_;rintro e w7 ⟨rfl,p7⟩;obtain⟨vc7,vb7,k7,f7⟩:=p7;have K7:=hide k7;have F7:=hide f7;clear k7 f7))
 go_end0
 exact⟨rfl,_,_,K7.out,(F5.out.trans F6.out).trans F7.out⟩
set_option maxRecDepth 20000 in
set_option maxHeartbeats 8000000 in
theorem cline_any {lo b nb:Nat} {s:CM} {vc vb:Value} {n:PNode} {m:NM} (w:World) (h:MkAt w lo b s vc vb) (hn:NdAt w lo nb n m) (hf:LineOk n) (hc:s.code.length+sizeE n.expr+4≤900000) (hb:s.br.length+1≤1000000) :
  Calls Tryz.prog 154 #[.pointer (some ⟨b,0,none⟩),.pointer (some ⟨nb,0,none⟩)] w fun e w'=>e=.returned (.tuple #[])∧MkPost lo b vc vb w (lineM n s) w':=by
 have A:=hide (cadd_any 0 0 w h (by omega))
 have ea:(s.add 0 0).code.length=s.code.length+1:=by simp [CM.add]
 have eb:(s.add 0 0).br=s.br:=rfl
 have hl:=(exprM_len n.expr (s.add 0 0)).1
 have H:=hide h;have Hn:=hide hn
 unfold lineM
 dsimp only
 have hbr:(s.add 0 0).br.length+1≤1000000:=hb
 have hs1:(s.add 0 0).code.length≤s.code.length+1:=by omega
 have hs2:(exprM n.expr (s.add 0 0)).code.length≤s.code.length+1+sizeE n.expr:=by omega
 clear ea eb hl h hn
 generalize s.add 0 0=s0 at *
 by_cases k2:n.kind=2
 ·rw [if_pos k2]
  have q0:(nodeCells n m)[0]?=some (.int .i64 2):=by rw [<-k2];rfl
  have Q0:=hide q0
  clear hf q0 k2
  go_enter Tryz.func154,Tryz.ntmps154
  go_wp2_with (first|(go_at_call 82;refine A.out.mono ?_;rintro e w5 ⟨rfl,p5⟩;obtain⟨vc5,vb5,k5,f5⟩:=p5;have nd5:=Hn.out.low (f5.low H.out);have q5:w5.cell? ⟨nb,0,none⟩=some (.int .i64 2):=(cell_at nd5.cells 0).trans Q0.out;have Nd5:=hide nd5;have K5:=hide k5;have F5:=hide f5;clear nd5 k5 f5 A)|(go_at_call 82;refine (cadd_any 20 0 _ K5.out (by omega)).mono ?_;rintro e w6 ⟨rfl,p6⟩;obtain⟨vc6,vb6,k6,f6⟩:=p6;have K6:=hide k6;have F6:=hide f6;clear k6 f6))
  go_end0
  exact⟨rfl,_,_,K6.out,F5.out.trans F6.out⟩
 by_cases k3:n.kind=3
 ·rw [if_neg k2,if_pos k3]
  have q0:(nodeCells n m)[0]?=some (.int .i64 3):=by rw [<-k3];rfl
  have Q0:=hide q0
  have hfu:=hf.1 (.inl k3)
  obtain⟨c,hve,hcl⟩:=Hn.out.expr.some_of hfu
  have Hfu:=hide hfu;have Hve:=hide hve
  clear hf q0 hfu hve k2 k3
  go_enter Tryz.func154,Tryz.ntmps154
  go_wp2_with (first|(go_at_call 82;refine A.out.mono ?_;rintro e w5 ⟨rfl,p5⟩;obtain⟨vc5,vb5,k5,f5⟩:=p5;have nd5:=Hn.out.low (f5.low H.out);have q5:w5.cell? ⟨nb,0,none⟩=some (.int .i64 3):=(cell_at nd5.cells 0).trans Q0.out;have q6:w5.cell? ⟨nb,6,none⟩=some (.pointer (some ⟨c,0,none⟩)):=(cell_at nd5.cells 6).trans (by rw [<-Hve.out];rfl);have Nd5:=hide nd5;have K5:=hide k5;have F5:=hide f5;clear nd5 k5 f5 A)|(go_at_call 190;rw [<-Hve.out];refine (cexpr_any n.expr m.elo m.ehi m.ve _ s0 _ _ Nd5.out.expr Nd5.out.ehi Hfu.out K5.out (by omega)).mono ?_;rintro e w6 ⟨rfl,p6⟩;obtain⟨vc6,vb6,k6,f6⟩:=p6;have q3:w6.cell? ⟨nb,3,none⟩=some (.int .i64 n.nd):=cell_at (Nd5.out.low (f6.low K5.out)).cells 3;have K6:=hide k6;have F6:=hide f6;clear k6 f6)|(go_at_call 82;refine (cadd_any 12 n.nd _ K6.out (by omega)).mono ?_;rintro e w7 ⟨rfl,p7⟩;obtain⟨vc7,vb7,k7,f7⟩:=p7;have K7:=hide k7;have F7:=hide f7;clear k7 f7))
  go_end0
  exact⟨rfl,_,_,K7.out,(F5.out.trans F6.out).trans F7.out⟩
 by_cases k6:n.kind=6
 ·rw [if_neg k2,if_neg k3,if_pos k6]
  have q0:(nodeCells n m)[0]?=some (.int .i64 6):=by rw [<-k6];rfl
  have Q0:=hide q0
  have hfu:=hf.1 (.inr (.inr k6))
  obtain⟨c,hve,hcl⟩:=Hn.out.expr.some_of hfu
  have Hfu:=hide hfu;have Hve:=hide hve
  clear hf q0 hfu hve k2 k3 k6
  go_enter Tryz.func154,Tryz.ntmps154
  go_wp2_with (first|(go_at_call 82;refine A.out.mono ?_;rintro e w5 ⟨rfl,p5⟩;obtain⟨vc5,vb5,k5,f5⟩:=p5;have nd5:=Hn.out.low (f5.low H.out);have q5:w5.cell? ⟨nb,0,none⟩=some (.int .i64 6):=(cell_at nd5.cells 0).trans Q0.out;have q6:w5.cell? ⟨nb,6,none⟩=some (.pointer (some ⟨c,0,none⟩)):=(cell_at nd5.cells 6).trans (by rw [<-Hve.out];rfl);have Nd5:=hide nd5;have K5:=hide k5;have F5:=hide f5;clear nd5 k5 f5 A)|(go_at_call 190;rw [<-Hve.out];refine (cexpr_any n.expr m.elo m.ehi m.ve _ s0 _ _ Nd5.out.expr Nd5.out.ehi Hfu.out K5.out (by omega)).mono ?_;rintro e w6 ⟨rfl,p6⟩;obtain⟨vc6,vb6,k6,f6⟩:=p6;have q3:w6.cell? ⟨nb,3,none⟩=some (.int .i64 n.nd):=cell_at (Nd5.out.low (f6.low K5.out)).cells 3;have K6:=hide k6;have F6:=hide f6;clear k6 f6)|(go_at_call 82;refine (cadd_any 17 0 _ K6.out (by omega)).mono ?_;rintro e w7 ⟨rfl,p7⟩;obtain⟨vc7,vb7,k7,f7⟩:=p7;have K7:=hide k7;have F7:=hide f7;clear k7 f7))
  go_end0
  exact⟨rfl,_,_,K7.out,(F5.out.trans F6.out).trans F7.out⟩
 by_cases k4:n.kind=4
 ·rw [if_neg k2,if_neg k3,if_neg k6,if_pos k4]
  have q0:(nodeCells n m)[0]?=some (.int .i64 4):=by rw [<-k4];rfl
  have Q0:=hide q0
  have Hfu:=hide (hf.1 (.inr (.inl k4)))
  have Hw:=hide (fun w vc vb (h:MkAt w lo b s0 vc vb) (hn:NdAt w lo nb n m)=>cwrite_any w h hn Hfu.out (by omega))
  generalize (if n.cd=2 then (exprM n.expr s0).add 13 0 else (exprM n.expr s0).add 14 n.cd)=sf at *
  clear hf q0 k2 k3 k6 k4
  go_enter Tryz.func154,Tryz.ntmps154
  go_wp2_with (first|(go_at_call 82;refine A.out.mono ?_;rintro e w5 ⟨rfl,p5⟩;obtain⟨vc5,vb5,k5,f5⟩:=p5;have nd5:=Hn.out.low (f5.low H.out);have q5:w5.cell? ⟨nb,0,none⟩=some (.int .i64 4):=(cell_at nd5.cells 0).trans Q0.out;have Nd5:=hide nd5;have K5:=hide k5;have F5:=hide f5;clear nd5 k5 f5 A)|(go_at_call 194;refine (Hw.out _ _ _ K5.out Nd5.out).mono ?_;rintro e w6 ⟨rfl,p6⟩;obtain⟨vc6,vb6,k6,f6⟩:=p6;have K6:=hide k6;have F6:=hide f6;clear k6 f6))
  go_end0
  exact⟨rfl,_,_,K6.out,F5.out.trans F6.out⟩
 by_cases k5:n.kind=5
 ·rw [if_neg k2,if_neg k3,if_neg k6,if_neg k4,if_pos k5]
  have q0:(nodeCells n m)[0]?=some (.int .i64 5):=by rw [<-k5];rfl
  have Q0:=hide q0
  have Hfu:Hid (n.expr=.nil∨fullE n.expr=true):=hf.2 k5
  have Hr:=hide (fun w vc vb (h:MkAt w lo b s0 vc vb) (hn:NdAt w lo nb n m)=>cread_any w h hn Hfu.out (by omega) hbr)
  clear hf q0 k2 k3 k6 k4 k5
  go_enter Tryz.func154,Tryz.ntmps154
  go_wp2_with (first|(go_at_call 82;refine A.out.mono ?_;rintro e w5 ⟨rfl,p5⟩;obtain⟨vc5,vb5,k5,f5⟩:=p5;have nd5:=Hn.out.low (f5.low H.out);have q5:w5.cell? ⟨nb,0,none⟩=some (.int .i64 5):=(cell_at nd5.cells 0).trans Q0.out;have Nd5:=hide nd5;have K5:=hide k5;have F5:=hide f5;clear nd5 k5 f5 A)|(go_at_call 195;refine (Hr.out _ _ _ K5.out Nd5.out).mono ?_;rintro e w6 ⟨rfl,p6⟩;obtain⟨vc6,vb6,k6,f6⟩:=p6;have K6:=hide k6;have F6:=hide f6;clear k6 f6))
  go_end0
  exact⟨rfl,_,_,K6.out,F5.out.trans F6.out⟩
 rw [if_neg k2,if_neg k3,if_neg k6,if_neg k4,if_neg k5]
 have j2:(n.kind == 2)=false:=by simpa using k2
 have j3:(n.kind == 3)=false:=by simpa using k3
 have j6:(n.kind == 6)=false:=by simpa using k6
 have j4:(n.kind == 4)=false:=by simpa using k4
 have j5:(n.kind == 5)=false:=by simpa using k5
 have q0:(nodeCells n m)[0]?=some (.int .i64 n.kind):=rfl
 have Q0:=hide q0
 clear hf q0 k2 k3 k6 k4 k5
 go_enter Tryz.func154,Tryz.ntmps154
 go_wp2_with (first|(go_at_call 82;refine A.out.mono ?_;rintro e w5 ⟨rfl,p5⟩;obtain⟨vc5,vb5,k5,f5⟩:=p5;have nd5:=Hn.out.low (f5.low H.out);have q5:w5.cell? ⟨nb,0,none⟩=some (.int .i64 n.kind):=(cell_at nd5.cells 0).trans Q0.out;have Nd5:=hide nd5;have K5:=hide k5;have F5:=hide f5;clear nd5 k5 f5 A))
 go_end0
 exact⟨rfl,_,_,K5.out,F5.out⟩
end Go.Proofs.YtnhidaamfnjdjaaGreatDoor
namespace Go.Proofs.YtnhidaamfnjdjaaGreatDoor
open Go.RowKit Go.Maps
def Le (s s':CM):Prop:=s.code.length≤s'.code.length∧s.br.length≤s'.br.length
theorem Le.refl (s:CM):Le s s:=⟨Nat.le_refl _,Nat.le_refl _⟩
theorem Le.trans {a b c:CM} (h:Le a b) (k:Le b c):Le a c:=⟨Nat.le_trans h.1 k.1,Nat.le_trans h.2 k.2⟩
theorem add_le' (s:CM) (k a:Int):Le s (s.add k a):=⟨by simp [CM.add],Nat.le_refl _⟩
theorem aim_le' (s:CM) (i:Nat):Le s (s.aim i):=⟨by simp [CM.aim],Nat.le_refl _⟩
theorem land_le' (s:CM) (i:Nat):Le s (s.land i):=⟨Nat.le_refl _,by simp [CM.land]⟩
theorem exprM_le (e:PE) (s:CM):Le s (exprM e s):=by
 have:=exprM_len e s
 exact⟨by omega,by rw [this.2.1];exact Nat.le_refl _⟩
theorem branchM_le (n:PNode) (s:CM):Le s (branchM n s):=by
 have h0:Le s { s with br:=s.br++[(n.cd,n.nd,0)] }:=⟨Nat.le_refl _,by simp⟩
 unfold branchM
 dsimp only
 split
 ·exact h0.trans (add_le' _ _ _)
 ·exact (((h0.trans (exprM_le _ _)).trans (add_le' _ _ _)).trans (add_le' _ _ _)).trans (aim_le' _ _)
theorem foldl_le {α β:Type} (m:α->CM) (g:α->β->α) (hg:∀ a x,Le (m a) (m (g a x))):∀ (l:List β) (a:α),Le (m a) (m (l.foldl g a))
 | [],_=>Le.refl _
 | x :: l,a=>(hg a x).trans (foldl_le m g hg l (g a x))
theorem aims_le' (s:CM) (l:List Nat):Le s (s.aims l):=foldl_le id CM.aim aim_le' l s
theorem lineM_le (n:PNode) (s:CM):Le s (lineM n s):=by
 have h0:=add_le' s 0 0
 unfold lineM
 dsimp only
 split
 ·exact h0.trans (add_le' _ _ _)
 ·split
  ·exact (h0.trans (exprM_le _ _)).trans (add_le' _ _ _)
  ·split
   ·exact (h0.trans (exprM_le _ _)).trans (add_le' _ _ _)
   ·split
    ·split
     ·exact (h0.trans (exprM_le _ _)).trans (add_le' _ _ _)
     ·exact (h0.trans (exprM_le _ _)).trans (add_le' _ _ _)
    ·split
     ·exact ((h0.trans (branchM_le _ _)).trans (add_le' _ _ _)).trans (land_le' _ _)
     ·exact h0
def belowF (T:List PNode) (f i:Nat) (s:CM):CM:=(T.getD i default).kids.foldl (fun s k=>procM T f k s) s
section
variable {T : List PNode}
theorem whenM_le {below:Nat->CM->CM} (hb:∀ i s,Le s (below i s)) (s:CM×List Nat) (k:Nat):Le s.1 (whenM T below s k).1 :=
 ((((exprM_le _ _).trans (add_le' _ _ _)).trans (hb _ _)).trans (add_le' _ _ _)).trans (aim_le' _ _)
theorem onM_le (s:CM×List Nat) (k:Nat):Le s.1 (onM T s k).1:=branchM_le _ _
theorem landsM_le {below:Nat->CM->CM} (hb:∀ i s,Le s (below i s)) (s:CM×List Nat) (k:Nat×Nat):Le s.1 (landsM below s k).1 :=
 ((land_le' _ _).trans (hb _ _)).trans (add_le' _ _ _)
theorem beginM_le (p:Bool) (s:CM×List Nat) (j:Nat):Le s.1 (beginM p s j).1:=add_le' _ _ _
theorem begunM_le {proc:Nat->CM->CM} (hb:∀ i s,Le s (proc i s)) (s:CM) (k:Nat×Nat):Le s (begunM proc s k) :=
 ((aim_le' _ _).trans (hb _ _)).trans (add_le' _ _ _)
theorem procM_le:∀ (f i:Nat) (s:CM),Le s (procM T f i s)
 | 0,i,s=>Le.refl _
 | f+1,i,s=>by
  have hb:∀ (i:Nat) (s:CM),Le s ((T.getD i default).kids.foldl (fun s k=>procM T f k s) s):=fun i s=>foldl_le id _ (fun s k=>procM_le f k s) _ s
  unfold procM
  dsimp only
  split
  ·exact hb _ _
  ·split
   ·split
    ·exact Le.trans (b:={ s with room:=max s.room ((T.getD i default).nd+1) }) (Le.refl _) ((add_le' _ _ _).trans (hb _ _))
    ·exact hb i { s with room:=max s.room ((T.getD i default).nd+1) }
   ·split
    ·exact (((((add_le' _ _ _).trans (exprM_le _ _)).trans (add_le' _ _ _)).trans (hb _ _)).trans (add_le' _ _ _)).trans (aim_le' _ _)
    ·split
     ·exact (((add_le' s 0 0).trans (foldl_le (fun p:CM×List Nat=>p.1) _ (whenM_le hb) _ (s.add 0 0,[]))).trans (add_le' _ _ _)).trans (aims_le' _ _)
     ·split
      ·exact ((((add_le' s 0 0).trans (foldl_le (fun p:CM×List Nat=>p.1) _ onM_le _ (s.add 0 0,[]))).trans (add_le' _ 16 0)).trans (foldl_le (fun p:CM×List Nat=>p.1) _ (landsM_le hb) _ (_,[]))).trans (aims_le' _ _)
      ·split
       ·exact ((((add_le' s 0 0).trans (foldl_le (fun p:CM×List Nat=>p.1) _ (beginM_le _) _ (s.add 0 0,[]))).trans (add_le' _ 23 0)).trans (foldl_le id _ (begunM_le (procM_le f)) _ _)).trans (aim_le' _ _)
       ·exact lineM_le _ _
theorem belowF_le (f i:Nat) (s:CM):Le s (belowF T f i s):=foldl_le id _ (fun s k=>procM_le f k s) _ s
end
structure TrAt (w:World) (lo:Nat) (T:List PNode) (ms:List NM):Prop where
 nd:∀ i,i<T.length->NdAt w lo (blkOf ms i) (T.getD i default) (ms.getD i default)
 kids:∀ i,i<T.length->w.ownsRow 0 54 1 (ms.getD i default).sl (T.getD i default).kids.length ((T.getD i default).kids.map (ptrTo ms))
 klt:∀ i,i<T.length->∀ g,(ms.getD i default).sl.ownBlock=some g->g<lo
theorem TrAt.low {w w':World} {lo:Nat} {T:List PNode} {ms:List NM} (h:TrAt w lo T ms) (hb:Below lo w w'):TrAt w' lo T ms :=
 ⟨fun i hi=>(h.nd i hi).low hb,fun i hi=>ownsRow_frame (h.kids i hi) (fun g hg=>hb.block g (h.klt i hi g hg)),h.klt⟩
def ProcC (T:List PNode) (ms:List NM) (lo b f:Nat):Prop:=∀ (i:Nat),i<T.length->T.length≤i+f->∀ (w:World) (s:CM) (vc vb:Value),TrAt w lo T ms->MkAt w lo b s vc vb->(procM T f i s).code.length≤800000->(procM T f i s).br.length≤800000 ->
 Calls Tryz.prog 81 #[.pointer (some ⟨b,0,none⟩),ptrTo ms i] w fun e w'=>e=.returned (.tuple #[])∧MkPost lo b vc vb w (procM T f i s) w'
theorem foldl_take_le {α β:Type} (m:α->CM) (g:α->β->α) (hg:∀ a x,Le (m a) (m (g a x))) (l:List β) (a:α) (j:Nat):Le (m ((l.take j).foldl g a)) (m (l.foldl g a)):=by
 have e:l.foldl g a=(l.drop j).foldl g ((l.take j).foldl g a):=by rw [<-List.foldl_append,List.take_append_drop]
 rw [e]
 exact foldl_le m g hg _ _
theorem foldl_take_step {α β:Type} (g:α->β->α) (l:List β) (a:α) (j:Nat) (hj:j<l.length):(l.take (j+1)).foldl g a=g ((l.take j).foldl g a) l[j]:=by
 rw [List.take_add_one,List.getElem?_eq_getElem hj,List.foldl_append]
 rfl
set_option maxRecDepth 20000 in
set_option maxHeartbeats 4000000 in
theorem cbelow_any {T:List PNode} {ms:List NM} {lo b f i:Nat} (P:ProcC T ms lo b f) (hkid:∀ k∈(T.getD i default).kids,i<k∧k<T.length) (hi:i<T.length) (hf:T.length≤i+1+f) (w:World) (s:CM) (vc vb:Value) (ht:TrAt w lo T ms) (h:MkAt w lo b s vc vb) (hc:(belowF T f i s).code.length≤800000) (hb:(belowF T f i s).br.length≤800000) (hk:(T.getD i default).kids.length≤1000000) :
  Calls Tryz.prog 148 #[.pointer (some ⟨b,0,none⟩),ptrTo ms i] w fun e w'=>e=.returned (.tuple #[])∧MkPost lo b vc vb w (belowF T f i s) w':=by
 have d7:w.cell? ⟨blkOf ms i,7,none⟩=some (ms.getD i default).sl:=cell_at (ht.nd i hi).cells 7
 have hrow:=ht.kids i hi
 have hklt:=ht.klt i hi
 obtain⟨ka,kc,hsl⟩:=ownsRow_len hrow
 have hmono:∀ j,Le (((T.getD i default).kids.take j).foldl (fun s k=>procM T f k s) s) (belowF T f i s):=fun j=>foldl_take_le id _ (fun s k=>procM_le f k s) _ _ j
 have hstep:=foldl_take_step (fun s k=>procM T f k s) (T.getD i default).kids s
 have hall:belowF T f i s=(T.getD i default).kids.foldl (fun s k=>procM T f k s) s:=rfl
 generalize belowF T f i s=sf at *
 generalize (T.getD i default).kids=kids at *
 rw [hsl] at d7 hrow hklt
 unfold ptrTo
 have H:=hide h;have Ht:=hide ht;have Hrow:=hide hrow;have Hklt:=hide hklt;have Hm:=hide hmono;have Hs:=hide hstep;have Ha:=hide hall;have PP:=hide P;have Hkid:=hide hkid
 clear h ht hrow hklt hmono hstep hall P hkid hsl
 generalize blkOf ms i=nb at *
 go_enter Tryz.func148,Tryz.ntmps148
 go_wp2_with fail
 go_loopw [5,11] (fun _ x wr=>∃ j:Nat,j≤kids.length∧x=.int .i64 j∧MkPost lo b vc vb w ((kids.take j).foldl (fun s k=>procM T f k s) s) wr) (fun _ x _=>kids.length - (intOf x).toNat)
 case atStart=>exact⟨0,Nat.zero_le _,rfl,_,_,H.out,MkFr.refl _ _ _ _⟩
 case round =>
  obtain⟨j,hj,rfl,vc1,vb1,k1,f1⟩:=hrel
  have hbl:=f1.low H.out
  by_cases hlt:j<kids.length
  ·have hrow1:wr.ownsRow 0 54 1 (.slice ka kids.length kc) kids.length (kids.map (ptrTo ms)):=ownsRow_frame Hrow.out (fun g hg=>hbl.block g (Hklt.out g hg))
   obtain⟨g,cap,cur,e1,hg,hn,hcc,hsz,hxs⟩:=row_pos hrow1 (by omega)
   have hcell:wr.cell? ⟨g,j,none⟩=some (ptrTo ms kids[j]):=ownsRow_cell (n:=kids.length * 1) hg hxs (by simp [List.getElem?_eq_getElem hlt])
   have hm1:=Hm.out (j+1)
   have hs1:=Hs.out j hlt
   have hkj:=Hkid.out kids[j] (List.getElem_mem hlt)
   rw [hs1] at hm1
   have C:=hide (PP.out kids[j] hkj.2 (by omega) wr _ vc1 vb1 (Ht.out.low hbl) k1 (by have:=hm1.1;omega) (by have:=hm1.2;omega))
   have Hs1:=hide hs1;have F1:=hide f1
   clear hrow1 hg hxs hsz k1 f1 hbl hm1 hs1 hkj
   simp only [Value.slice.injEq,true_and] at e1
   obtain⟨rfl,rfl⟩:=e1
   generalize kids[j]=kid at *
   generalize procM T f kid ((kids.take j).foldl (fun s k=>procM T f k s) s)=s2 at *
   unfold ptrTo at hcell C
   generalize blkOf ms kid=kb at *
   go_wp2_with (go_at_call 81;refine C.out.mono ?_;rintro e w5 ⟨rfl,p5⟩;obtain⟨vc5,vb5,k5,f5⟩:=p5;have K5:=hide k5;have F5:=hide f5;clear k5 f5)
   go_roundw
   case rel=>exact⟨j+1,by omega,by go_num,by rw [Hs1.out];exact⟨_,_,K5.out,F1.out.trans F5.out⟩⟩
   case measure=>simp [intOf];omega
  ·have e:kids.take j=kids:=List.take_of_length_le (by omega)
   rw [e,<-Ha.out] at k1
   have K1:=hide k1;have F1:=hide f1
   clear k1 f1
   go_wp2_with fail
   go_end0
   exact⟨rfl,_,_,K1.out,F1.out⟩
end Go.Proofs.YtnhidaamfnjdjaaGreatDoor
namespace Go.Proofs.YtnhidaamfnjdjaaGreatDoor
open Go.RowKit Go.Maps
theorem croom_final {w:World} {lo b:Nat} {s:CM} {vc vb:Value} (h:MkAt w lo b s vc vb) (r:Int):MkAt (w.setCell ⟨b,2,none⟩ (.int .i64 r)) lo b { s with room:=r } vc vb∧MkFr b vc vb vc vb w (w.setCell ⟨b,2,none⟩ (.int .i64 r)) :=
 ⟨⟨at_setCell h.blk 2 _,ownsRow_frame h.code (fun g hg=>Below.heap_setCell _ _ _ _ (fun e=>h.cb (by rw [hg];exact congrArg some e))),ownsRow_frame h.br (fun g hg=>Below.heap_setCell _ _ _ _ (fun e=>h.bb (by rw [hg];exact congrArg some e))),h.cb,h.bb,h.cbr,h.lb,h.lc,h.lbr⟩,rfl,rfl,rfl,by simp,fun g _ hb _ _=>Below.heap_setCell _ _ _ _ (fun e=>hb e),.inl rfl,.inl rfl⟩
section
variable {T : List PNode} {ms : List NM} {lo b f i : Nat}
set_option maxRecDepth 20000 in
set_option maxHeartbeats 4000000 in
theorem cdecl_any (P:ProcC T ms lo b f) (hkid:∀ k∈(T.getD i default).kids,i<k∧k<T.length) (hi:i<T.length) (hf:T.length≤i+1+f) (hk:(T.getD i default).kids.length≤1000000) (hkd:(T.getD i default).kind=15∨(T.getD i default).kind=16) (hnd:0≤(T.getD i default).nd∧(T.getD i default).nd≤100000)
  (w:World) (s s1 s2:CM) (vc vb:Value) (hs1:s1={ s with room:=max s.room ((T.getD i default).nd+1) }) (hs2:s2=if (T.getD i default).kind=15 then s1.add 11 (T.getD i default).nd else s1) (ht:TrAt w lo T ms) (h:MkAt w lo b s vc vb) (hc:(belowF T f i s2).code.length≤800000) (hb:(belowF T f i s2).br.length≤800000) :
  Calls Tryz.prog 149 #[.pointer (some ⟨b,0,none⟩),ptrTo ms i] w fun e w'=>e=.returned (.tuple #[])∧MkPost lo b vc vb w (belowF T f i s2) w':=by
 have nd:=ht.nd i hi
 have hl1:s1.code.length+1≤1000000:=by
  have h1:=(belowF_le (T:=T) f i s2).1
  have h2:s1.code.length≤s2.code.length:=by
   rw [hs2]
   split
   ·exact (add_le' _ _ _).1
   ·exact Nat.le_refl _
  omega
 have B:Hid (∀ w vc vb,TrAt w lo T ms->MkAt w lo b s2 vc vb->Calls Tryz.prog 148 #[.pointer (some ⟨b,0,none⟩),ptrTo ms i] w fun e w'=>e=.returned (.tuple #[])∧MkPost lo b vc vb w (belowF T f i s2) w'):=hide (fun w vc vb ht h=>cbelow_any P hkid hi hf w s2 vc vb ht h hc hb hk)
 clear P hkid hf hc hb hk
 generalize belowF T f i s2=sf at *
 generalize T.getD i default=n at *
 have d0:w.cell? ⟨blkOf ms i,0,none⟩=some (.int .i64 n.kind):=cell_at nd.cells 0
 have d3:w.cell? ⟨blkOf ms i,3,none⟩=some (.int .i64 n.nd):=cell_at nd.cells 3
 have c2:=h.c2
 have z2:∀ k,w.frozen? ⟨b,k,none⟩=false:=fun k=>frozen_at h.blk k
 have Fin:=croom_final h (max s.room (n.nd+1))
 rw [<-hs1] at Fin
 have hbl:=Fin.2.low h
 have nd2:=nd.low hbl
 have q0:(w.setCell ⟨b,2,none⟩ (.int .i64 (max s.room (n.nd+1)))).cell? ⟨blkOf ms i,0,none⟩=some (.int .i64 n.kind):=cell_at nd2.cells 0
 have q3:(w.setCell ⟨b,2,none⟩ (.int .i64 (max s.room (n.nd+1)))).cell? ⟨blkOf ms i,3,none⟩=some (.int .i64 n.nd):=cell_at nd2.cells 3
 unfold ptrTo at B
 unfold ptrTo
 have H:=hide h;have Ht:=hide ht;have FF:=hide Fin;have Ht2:=hide (ht.low hbl)
 clear h ht Fin nd nd2 hbl
 generalize blkOf ms i=nb at *
 go_enter Tryz.func149,Tryz.ntmps149
 go_wp2_with fail
 go_region
 have K2:=hide FF.out.1.drew;have F2:=hide FF.out.2.drew
 have Ht3:Hid (TrAt (w.setCell ⟨b,2,none⟩ (.int .i64 (max s.room (n.nd+1)))).drew lo T ms):=Ht2.out.low ⟨rfl,rfl,rfl,Nat.le_refl _,fun _ _=>rfl⟩
 have p0:(w.setCell ⟨b,2,none⟩ (.int .i64 (max s.room (n.nd+1)))).drew.cell? ⟨nb,0,none⟩=some (.int .i64 n.kind):=q0
 have p3:(w.setCell ⟨b,2,none⟩ (.int .i64 (max s.room (n.nd+1)))).drew.cell? ⟨nb,3,none⟩=some (.int .i64 n.nd):=q3
 clear q0 q3 d0 d3 c2 z2 FF Ht2
 generalize (w.setCell ⟨b,2,none⟩ (.int .i64 (max s.room (n.nd+1)))).drew=w2 at *
 rcases hkd with hkd|hkd
 ·rw [if_pos hkd] at hs2
  rw [hkd] at p0
  have Hs2:=hide hs2
  clear hkd hs1 hs2
  go_wp2_with (first
   | (go_at_call 82;refine (cadd_any 11 n.nd _ K2.out hl1).mono ?_;rw [<-Hs2.out];rintro e w5 ⟨rfl,p5⟩;obtain⟨vc5,vb5,k5,f5⟩:=p5;have K5:=hide k5;have T5:=hide (Ht3.out.low (f5.low K2.out));have F5:=hide (F2.out.trans f5);clear k5 f5)
   | (go_at_call 148;refine (B.out _ _ _ T5.out K5.out).mono ?_;rintro e w6 ⟨rfl,p6⟩;obtain⟨vc6,vb6,k6,f6⟩:=p6;have K6:=hide k6;have F6:=hide (F5.out.trans f6);clear k6 f6))
  go_end0
  exact⟨rfl,_,_,K6.out,F6.out⟩
 ·rw [if_neg (by omega)] at hs2
  rw [hkd] at p0
  rw [<-hs2] at K2
  clear hkd hs1 hs2
  go_wp2_with (go_at_call 148;refine (B.out _ _ _ Ht3.out K2.out).mono ?_;rintro e w6 ⟨rfl,p6⟩;obtain⟨vc6,vb6,k6,f6⟩:=p6;have K6:=hide k6;have F6:=hide (F2.out.trans f6);clear k6 f6)
  go_end0
  exact⟨rfl,_,_,K6.out,F6.out⟩
end
end Go.Proofs.YtnhidaamfnjdjaaGreatDoor
namespace Go.Proofs.YtnhidaamfnjdjaaGreatDoor
open Go.RowKit Go.Maps
section
variable {T : List PNode} {ms : List NM} {lo b f i : Nat}
set_option maxRecDepth 20000 in
set_option maxHeartbeats 4000000 in
theorem cwhile_any (P:ProcC T ms lo b f) (hkid:∀ k∈(T.getD i default).kids,i<k∧k<T.length) (hi:i<T.length) (hf:T.length≤i+1+f) (hk:(T.getD i default).kids.length≤1000000) (hfu:fullE (T.getD i default).expr=true)
  (w:World) (s:CM) (vc vb:Value) (ht:TrAt w lo T ms) (h:MkAt w lo b s vc vb) (hc:(belowF T f i ((exprM (T.getD i default).expr (s.add 0 0)).add 18 0)).code.length+1≤800000) (hb:(belowF T f i ((exprM (T.getD i default).expr (s.add 0 0)).add 18 0)).br.length≤800000) :
  Calls Tryz.prog 150 #[.pointer (some ⟨b,0,none⟩),ptrTo ms i] w fun e w'=>e=.returned (.tuple #[])∧MkPost lo b vc vb w (((belowF T f i ((exprM (T.getD i default).expr (s.add 0 0)).add 18 0)).add 19 (s.code.length:Int)).aim (exprM (T.getD i default).expr (s.add 0 0)).code.length) w':=by
 have nd:=ht.nd i hi
 have h1:=add_le' s 0 0
 have h2:=exprM_len (T.getD i default).expr (s.add 0 0)
 have h3:=add_le' (exprM (T.getD i default).expr (s.add 0 0)) 18 0
 have h4:=belowF_le (T:=T) f i ((exprM (T.getD i default).expr (s.add 0 0)).add 18 0)
 have h5:=add_le' (belowF T f i ((exprM (T.getD i default).expr (s.add 0 0)).add 18 0)) 19 (s.code.length:Int)
 have e3:((exprM (T.getD i default).expr (s.add 0 0)).add 18 0).code.length=(exprM (T.getD i default).expr (s.add 0 0)).code.length+1:=by simp [CM.add]
 have e5:((belowF T f i ((exprM (T.getD i default).expr (s.add 0 0)).add 18 0)).add 19 (s.code.length:Int)).code.length=(belowF T f i ((exprM (T.getD i default).expr (s.add 0 0)).add 18 0)).code.length+1:=by simp [CM.add]
 have B:Hid (∀ w vc vb,TrAt w lo T ms->MkAt w lo b ((exprM (T.getD i default).expr (s.add 0 0)).add 18 0) vc vb->Calls Tryz.prog 148 #[.pointer (some ⟨b,0,none⟩),ptrTo ms i] w fun e w'=>e=.returned (.tuple #[])∧MkPost lo b vc vb w (belowF T f i ((exprM (T.getD i default).expr (s.add 0 0)).add 18 0)) w'):=hide (fun w vc vb ht h=>cbelow_any P hkid hi hf w _ vc vb ht h (by omega) hb hk)
 obtain⟨c,hve,hcl⟩:=nd.expr.some_of hfu
 have L1:s.code.length+1≤1000000:=by have:=h1.1;have:=h3.1;have:=h4.1;omega
 have L2:(s.add 0 0).code.length+sizeE (T.getD i default).expr≤900000:=by have:=h3.1;have:=h4.1;omega
 have L3:(exprM (T.getD i default).expr (s.add 0 0)).code.length+1≤1000000:=by have:=h3.1;have:=h4.1;omega
 have L5:(belowF T f i ((exprM (T.getD i default).expr (s.add 0 0)).add 18 0)).code.length+1≤1000000:=by omega
 have L6:(exprM (T.getD i default).expr (s.add 0 0)).code.length<((belowF T f i ((exprM (T.getD i default).expr (s.add 0 0)).add 18 0)).add 19 (s.code.length:Int)).code.length:=by have:=h4.1;omega
 have L7:((belowF T f i ((exprM (T.getD i default).expr (s.add 0 0)).add 18 0)).add 19 (s.code.length:Int)).code.length≤1000000:=by omega
 clear P hkid hf hc hb hk h1 h2 h3 h4 h5 e3 e5
 generalize belowF T f i ((exprM (T.getD i default).expr (s.add 0 0)).add 18 0)=sf at *
 generalize T.getD i default=n at *
 generalize ms.getD i default=m at *
 generalize hs1:s.add 0 0=s1 at *
 generalize hs2:exprM n.expr s1=s2 at *
 unfold ptrTo at B
 unfold ptrTo
 have H:=hide h;have H0:=hide h;have Ht:=hide ht;have Nd:=hide nd;have Hfu:=hide hfu;have Hve:=hide hve;have Hs1:=hide hs1;have Hs2:=hide hs2
 clear h ht nd hfu hve hs1 hs2
 generalize blkOf ms i=nb at *
 go_enter Tryz.func150,Tryz.ntmps150
 go_wp2_with (first
  | (go_at_call 82;refine (cadd_any 0 0 _ H0.out L1).mono ?_;rw [Hs1.out];rintro e w5 ⟨rfl,p5⟩;obtain⟨vc5,vb5,k5,f5⟩:=p5;have bl5:=f5.low H.out;have nd5:=Nd.out.low bl5;have q6:w5.cell? ⟨nb,6,none⟩=some (.pointer (some ⟨c,0,none⟩)):=(cell_at nd5.cells 6).trans (by rw [<-Hve.out];rfl);have Nd5:=hide nd5;have K5:=hide k5;have F5:=hide f5;clear nd5 k5 f5 bl5 Nd H0)
  | (go_at_call 190;rw [<-Hve.out];refine (cexpr_any n.expr m.elo m.ehi m.ve _ s1 _ _ Nd5.out.expr Nd5.out.ehi Hfu.out K5.out L2).mono ?_;rw [Hs2.out];rintro e w6 ⟨rfl,p6⟩;obtain⟨vc6,vb6,k6,f6⟩:=p6;have K6:=hide k6;have F6:=hide (F5.out.trans f6);clear k6 f6)
  | (go_at_call 82;refine (cadd_any 18 0 _ K6.out L3).mono ?_;rintro e w7 ⟨rfl,p7⟩;obtain⟨vc7,vb7,k7,f7⟩:=p7;have K7:=hide k7;have F7:=hide (F6.out.trans f7);clear k7 f7 K6)
  | (go_at_call 148;refine (B.out _ _ _ (Ht.out.low (F7.out.low H.out)) K7.out).mono ?_;rintro e w8 ⟨rfl,p8⟩;obtain⟨vc8,vb8,k8,f8⟩:=p8;have K8:=hide k8;have F8:=hide (F7.out.trans f8);clear k8 f8)
  | (go_at_call 82;refine (cadd_any 19 s.code.length _ K8.out L5).mono ?_;rintro e w9 ⟨rfl,p9⟩;obtain⟨vc9,vb9,k9,f9⟩:=p9;have K9:=hide k9;have F9:=hide (F8.out.trans f9);clear k9 f9 K8)
  | (go_at_call 191;refine (caim_at _ K9.out s2.code.length L6 L7).mono ?_;rintro e w10 ⟨rfl,p10⟩;obtain⟨vc10,vb10,k10,f10⟩:=p10;have K10:=hide k10;have F10:=hide (F9.out.trans f10);clear k10 f10))
 go_end0
 exact⟨rfl,_,_,K10.out,F10.out⟩
end
end Go.Proofs.YtnhidaamfnjdjaaGreatDoor
namespace Go.Proofs.YtnhidaamfnjdjaaGreatDoor
open Go.RowKit Go.Maps
theorem MkFr.grow {b:Nat} {vc vb vc1 vb1:Value} {w w1 w2:World} {r:Option Nat} (h:MkFr b vc vb vc1 vb1 w w1) (g:w1.grownBy w2 r) (hr:∀ k,r=some k->w.heap.size≤k):MkFr b vc vb vc1 vb1 w w2 :=
 ⟨g.os.trans h.os,g.tape.trans h.tape,g.output.trans h.output,Nat.le_trans h.size g.size,fun k hk h1 h2 h3=>(g.block k (Nat.lt_of_lt_of_le hk h.size) (fun e=>by have:=hr k e.symm;omega)).trans (h.block k hk h1 h2 h3),h.nc,h.nb⟩
theorem MkAt.grow {w1 w2:World} {lo b:Nat} {s:CM} {vc vb:Value} {r:Option Nat} (h:MkAt w1 lo b s vc vb) (g:w1.grownBy w2 r) (hr:∀ k,r=some k->Held w1 b vc vb k):MkAt w2 lo b s vc vb :=
 ⟨by rw [g.block b (lt_of_at h.blk) (fun e=>(hr b e.symm).nb rfl)];exact h.blk,ownsRow_frame h.code (fun k hk=>g.block k (own_lt h.code hk) (fun e=>(hr k e.symm).nc hk)),ownsRow_frame h.br (fun k hk=>g.block k (own_lt h.br hk) (fun e=>(hr k e.symm).nr hk)),h.cb,h.bb,h.cbr,h.lb,h.lc,h.lbr⟩
structure LvAt (z:Nat) (w:World) (b:Nat) (vc vb lv:Value) (l:List Nat):Prop where
 own:w.ownsRow 0 3 1 lv l.length (natsV l)
 new:∀ g,lv.ownBlock=some g->z≤g∧Held w b vc vb g
theorem LvAt.nil (z:Nat) (w:World) (b:Nat) (vc vb:Value):LvAt z w b vc vb (.slice none 0 0) []:=⟨World.ownsRow_nil _ _ _ _,fun g e=>by simp [Value.ownBlock] at e⟩
theorem LvAt.next {z:Nat} {w w':World} {b:Nat} {vc vb vc' vb' lv:Value} {l:List Nat} (h:LvAt z w b vc vb lv l) (k:MkFr b vc vb vc' vb' w w'):LvAt z w' b vc' vb' lv l :=
 ⟨ownsRow_frame h.own (fun g hg=>((h.new g hg).2.next k).2),fun g hg=>⟨(h.new g hg).1,((h.new g hg).2.next k).1⟩⟩
theorem LvAt.more {z:Nat} {w w1 w4:World} {lo b:Nat} {s:CM} {vc vb vc1 vb1 lv v':Value} {l:List Nat} {i:Nat} {O:Obj} (h:LvAt w.heap.size w1 b vc1 vb1 lv l) (m:MkAt w1 lo b s vc1 vb1) (fr:MkFr b vc vb vc1 vb1 w w1) (g4:(w1.alloc O).grownBy w4 lv.ownBlock) (o4:w4.ownsRow 0 3 1 v' (l.length+1) (natsV l++[.int .i64 i])) (b4:v'.ownBlock=lv.ownBlock∨∃ g,v'.ownBlock=some g∧(w1.alloc O).heap.size≤g) (hz:z=w.heap.size) :
  LvAt z w4 b vc1 vb1 v' (l++[i])∧MkAt w4 lo b s vc1 vb1∧MkFr b vc vb vc1 vb1 w w4:=by
 subst hz
 have hb1:=m.grown (bel_alloc w1 O)
 have h1:=h.next hb1.2
 have f1:=fr.trans hb1.2
 have hsz:(w1.alloc O).heap.size=w1.heap.size+1:=by simp
 have hlb:=lt_of_at m.blk
 refine⟨⟨?_,fun g hg=>?_⟩,hb1.1.grow g4 (fun k e=>(h1.new k e).2),f1.grow g4 (fun k e=>(h1.new k e).1)⟩
 ·have e:natsV (l++[i])=natsV l++[.int .i64 i]:=by simp [natsV]
  rw [e,List.length_append,List.length_singleton]
  exact o4
 ·have hs:=g4.size
  rcases b4 with e|⟨g',e,hge⟩
  ·rw [e] at hg
   have:=h1.new g hg
   exact⟨this.1,by have:=this.2.lt;omega,this.2.nb,this.2.nc,this.2.nr⟩
  ·rw [e] at hg
   injection hg with hg
   subst hg
   have:=own_lt o4 e
   exact⟨by have:=fr.size;omega,this,by omega,fun x=>by have:=own_lt m.code x;omega,fun x=>by have:=own_lt m.br x;omega⟩
section
variable {T : List PNode}
def PlIn (p:CM×List Nat):Prop:=∀ x∈p.2,x<p.1.code.length
theorem PlIn.snoc {p:CM×List Nat} {s2:CM} {y:Nat} (h:PlIn p) (hle:Le p.1 s2) (hy:y<s2.code.length):PlIn (s2,p.2++[y]):=by
 intro x hx
 simp only [List.mem_append,List.mem_singleton] at hx
 show x<s2.code.length
 rcases hx with hx|rfl
 ·have h1:=h x hx
  have h2:=hle.1
  omega
 ·exact hy
theorem whenM_in {below:Nat->CM->CM} (hb:∀ i s,Le s (below i s)) (p:CM×List Nat) (k:Nat) (h:PlIn p):PlIn (whenM T below p k):=by
 refine PlIn.snoc h (whenM_le (T:=T) hb p k) ?_
 show _<((_:CM).aim _).code.length
 simp [CM.aim,CM.add]
theorem foldl_in {β:Type} (g:CM×List Nat->β->CM×List Nat) (hg:∀ p x,PlIn p->PlIn (g p x)):∀ (l:List β) (p:CM×List Nat),PlIn p->PlIn (l.foldl g p)
 | [],_,h=>h
 | x :: l,p,h=>foldl_in g hg l (g p x) (hg p x h)
theorem foldl_cnt {β:Type} (g:CM×List Nat->β->CM×List Nat) (hg:∀ p x,(g p x).2.length=p.2.length+1):∀ (l:List β) (p:CM×List Nat),(l.foldl g p).2.length=p.2.length+l.length
 | [],_=>rfl
 | x :: l,p=>by
  rw [List.foldl_cons,foldl_cnt g hg l,hg,List.length_cons]
  omega
end
end Go.Proofs.YtnhidaamfnjdjaaGreatDoor
namespace Go.Proofs.YtnhidaamfnjdjaaGreatDoor
open Go.RowKit Go.Maps
section
variable {T : List PNode} {ms : List NM} {lo b f i : Nat}
structure KidsOk (T:List PNode) (i:Nat):Prop where
 up:∀ k∈(T.getD i default).kids,i<k∧k<T.length
 few:(T.getD i default).kids.length≤100000
set_option maxRecDepth 20000 in
set_option maxHeartbeats 8000000 in
theorem cchoice_any (P : ProcC T ms lo b f) (hkid : KidsOk T i) (hkk : ∀ k ∈ (T.getD i default).kids, KidsOk T k ∧ fullE (T.getD k default).expr = true) (hi : i < T.length) (hf : T.length ≤ i + 1 + f)
    (w : World) (s : CM) (vc vb : Value) (p : CM × List Nat) (hp : p = (T.getD i default).kids.foldl (whenM T (belowF T f)) (s.add 0 0, [])) (ht : TrAt w lo T ms) (h : MkAt w lo b s vc vb) (hc : p.1.code.length + 1 ≤ 800000) (hb : p.1.br.length ≤ 800000) :
    Calls Tryz.prog 151 #[.pointer (some ⟨b, 0, none⟩), ptrTo ms i] w fun e w' => e = .returned (.tuple #[]) ∧ MkPost lo b vc vb w ((p.1.add 20 0).aims p.2) w' := by
  have nd := ht.nd i hi
  have d7 : w.cell? ⟨blkOf ms i, 7, none⟩ = some (ms.getD i default).sl := cell_at nd.cells 7
  have hrow := ht.kids i hi
  have hklt := ht.klt i hi
  obtain ⟨ka, kc, hsl⟩ := ownsRow_len hrow
  have hmono : ∀ j, Le (((T.getD i default).kids.take j).foldl (whenM T (belowF T f)) (s.add 0 0, [])).1 p.1 := fun j => by rw [hp]; exact foldl_take_le (fun p : CM × List Nat => p.1) _ (whenM_le (fun i s => belowF_le f i s)) _ _ j
  have hstep := foldl_take_step (whenM T (belowF T f)) (T.getD i default).kids (s.add 0 0, [])
  have hin : ∀ j, PlIn (((T.getD i default).kids.take j).foldl (whenM T (belowF T f)) (s.add 0 0, [])) := fun j => foldl_in _ (whenM_in (fun i s => belowF_le f i s)) _ _ (fun x hx => by simp at hx)
  have hcnt : ∀ j, j ≤ (T.getD i default).kids.length → (((T.getD i default).kids.take j).foldl (whenM T (belowF T f)) (s.add 0 0, [])).2.length ≤ 100000 := fun j hj => by
    rw [foldl_cnt _ (fun p x => by simp [whenM])]
    have := hkid.few
    simp
    omega
  have hup := hkid.up
  have hfew := hkid.few
  generalize (T.getD i default).kids = kids at *
  rw [hsl] at d7 hrow hklt
  unfold ptrTo
  have L1 : s.code.length + 1 ≤ 1000000 := by
    have h1 := (hmono 0).1
    have h2 : (s.add 0 0).code.length = s.code.length + 1 := by simp [CM.add]
    simp only [List.take_zero, List.foldl_nil] at h1
    omega
  have H := hide h; have H0 := hide h; have Ht := hide ht; have Hrow := hide hrow; have Hklt := hide hklt; have Hm := hide hmono; have Hs := hide hstep; have Hin := hide hin; have Hcnt := hide hcnt; have Hp := hide hp; have PP := hide P; have Hup := hide hup; have Hkk := hide hkk; have Nd := hide nd
  clear h ht hrow hklt hmono hstep hin hcnt hp P hup hkk hsl nd hkid
  generalize hnb : blkOf ms i = nb at *
  have Hnb := hide hnb
  clear hnb
  go_enter Tryz.func151, Tryz.ntmps151
  go_wp2_with (go_at_call 82; refine (cadd_any 0 0 _ H0.out L1).mono ?_; rintro e w1 ⟨rfl, p1⟩; obtain ⟨vc1, vb1, k1, f1⟩ := p1; have q7 : w1.cell? ⟨nb, 7, none⟩ = some (.slice ka kids.length kc) := (by rw [← d7]; exact (cell_at (Nd.out.low (f1.low H.out)).cells 7).trans (cell_at Nd.out.cells 7).symm); have K1 := hide k1; have F1 := hide f1; clear k1 f1 H0)
  go_loopw [4, 6, 7, 15] (fun lv _ _ x wr => ∃ (j : Nat) (vcj vbj : Value), j ≤ kids.length ∧ x = .int .i64 j ∧ MkAt wr lo b ((kids.take j).foldl (whenM T (belowF T f)) (s.add 0 0, [])).1 vcj vbj ∧ MkFr b vc vb vcj vbj w wr ∧ LvAt w.heap.size wr b vcj vbj lv ((kids.take j).foldl (whenM T (belowF T f)) (s.add 0 0, [])).2) (fun _ _ _ x _ => kids.length - (intOf x).toNat)
  case atStart => exact ⟨0, _, _, Nat.zero_le _, rfl, K1.out, F1.out, LvAt.nil _ _ _ _ _⟩
  case round =>
    obtain ⟨j, vcj, vbj, hj, rfl, k2, f2, l2⟩ := hrel
    have hbl := f2.low H.out
    obtain ⟨la, lc, hlv⟩ := ownsRow_len l2.own
    subst hlv
    by_cases hlt : j < kids.length
    · have hrow1 : wr.ownsRow 0 54 1 (.slice ka kids.length kc) kids.length (kids.map (ptrTo ms)) := ownsRow_frame Hrow.out (fun g hg => hbl.block g (Hklt.out g hg))
      obtain ⟨g, cap, cur, e1, hg, hn, hcc, hsz, hxs⟩ := row_pos hrow1 (by omega)
      have hcell : wr.cell? ⟨g, j, none⟩ = some (ptrTo ms kids[j]) := ownsRow_cell (n := kids.length * 1) hg hxs (by simp [List.getElem?_eq_getElem hlt])
      have hm1 := Hm.out (j + 1)
      have hs1 := Hs.out j hlt
      have hkj := Hup.out kids[j] (List.getElem_mem hlt)
      obtain ⟨hko, hfu⟩ := Hkk.out kids[j] (List.getElem_mem hlt)
      have hcn := Hcnt.out j hj
      rw [hs1] at hm1
      have tr2 := Ht.out.low hbl
      have nd2 := tr2.nd kids[j] hkj.2
      obtain ⟨c, hve, hcl⟩ := nd2.expr.some_of hfu
      have hle1 := exprM_len (T.getD kids[j] default).expr ((kids.take j).foldl (whenM T (belowF T f)) (s.add 0 0, [])).1
      have hle2 := belowF_le (T := T) f kids[j] ((exprM (T.getD kids[j] default).expr ((kids.take j).foldl (whenM T (belowF T f)) (s.add 0 0, [])).1).add 18 0)
      have hw1 : (whenM T (belowF T f) ((kids.take j).foldl (whenM T (belowF T f)) (s.add 0 0, [])) kids[j]).1.code.length = (belowF T f kids[j] ((exprM (T.getD kids[j] default).expr ((kids.take j).foldl (whenM T (belowF T f)) (s.add 0 0, [])).1).add 18 0)).code.length + 1 := by simp [whenM, CM.add, CM.aim]
      have hw2 : (whenM T (belowF T f) ((kids.take j).foldl (whenM T (belowF T f)) (s.add 0 0, [])) kids[j]).1.br.length = (belowF T f kids[j] ((exprM (T.getD kids[j] default).expr ((kids.take j).foldl (whenM T (belowF T f)) (s.add 0 0, [])).1).add 18 0)).br.length := by simp [whenM, CM.add, CM.aim]
      have B : Hid (∀ w vc vb, TrAt w lo T ms → MkAt w lo b ((exprM (T.getD kids[j] default).expr ((kids.take j).foldl (whenM T (belowF T f)) (s.add 0 0, [])).1).add 18 0) vc vb → Calls Tryz.prog 148 #[.pointer (some ⟨b, 0, none⟩), ptrTo ms kids[j]] w fun e w' => e = .returned (.tuple #[]) ∧ MkPost lo b vc vb w (belowF T f kids[j] ((exprM (T.getD kids[j] default).expr ((kids.take j).foldl (whenM T (belowF T f)) (s.add 0 0, [])).1).add 18 0)) w') := hide (fun w vc vb ht h => cbelow_any PP.out hko.up hkj.2 (by omega) w _ vc vb ht h (by have := hm1.1; omega) (by have := hm1.2; omega) (by have := hko.few; omega))
      have hwd : whenM T (belowF T f) ((kids.take j).foldl (whenM T (belowF T f)) (s.add 0 0, [])) kids[j] = (((belowF T f kids[j] ((exprM (T.getD kids[j] default).expr ((kids.take j).foldl (whenM T (belowF T f)) (s.add 0 0, [])).1).add 18 0)).add 19 0).aim (exprM (T.getD kids[j] default).expr ((kids.take j).foldl (whenM T (belowF T f)) (s.add 0 0, [])).1).code.length, ((kids.take j).foldl (whenM T (belowF T f)) (s.add 0 0, [])).2 ++ [(belowF T f kids[j] ((exprM (T.getD kids[j] default).expr ((kids.take j).foldl (whenM T (belowF T f)) (s.add 0 0, [])).1).add 18 0)).code.length]) := rfl
      have ea : ((exprM (T.getD kids[j] default).expr ((kids.take j).foldl (whenM T (belowF T f)) (s.add 0 0, [])).1).add 18 0).code.length = (exprM (T.getD kids[j] default).expr ((kids.take j).foldl (whenM T (belowF T f)) (s.add 0 0, [])).1).code.length + 1 := by simp [CM.add]
      rw [hwd] at hs1
      clear hwd
      generalize hS : (kids.take j).foldl (whenM T (belowF T f)) (s.add 0 0, []) = S at *
      generalize hs2 : exprM (T.getD kids[j] default).expr S.1 = s2 at *
      generalize hs3 : belowF T f kids[j] (s2.add 18 0) = s3 at *
      have M2 : S.1.code.length + sizeE (T.getD kids[j] default).expr ≤ 900000 := by have := hm1.1; have := hle2.1; omega
      have M3 : s2.code.length + 1 ≤ 1000000 := by have := hm1.1; have := hle2.1; omega
      have M4 : s3.code.length + 1 ≤ 1000000 := by have := hm1.1; omega
      have M5 : s2.code.length < (s3.add 19 0).code.length := by have := hle2.1; have e : (s3.add 19 0).code.length = s3.code.length + 1 := by simp [CM.add]
                                                                 omega
      have M6 : (s3.add 19 0).code.length ≤ 1000000 := by have e : (s3.add 19 0).code.length = s3.code.length + 1 := by simp [CM.add]
                                                          omega
      have q6 : wr.cell? ⟨blkOf ms kids[j], 6, none⟩ = some (.pointer (some ⟨c, 0, none⟩)) := (cell_at nd2.cells 6).trans (by rw [← hve]; rfl)
      have E : Hid (Calls Tryz.prog 190 #[.pointer (some ⟨b, 0, none⟩), .pointer (some ⟨c, 0, none⟩)] wr fun e w' => e = .returned (.tuple #[]) ∧ MkPost lo b vcj vbj wr s2 w') := by
        have := cexpr_any (T.getD kids[j] default).expr _ _ _ wr S.1 vcj vbj nd2.expr nd2.ehi hfu k2 M2
        rw [hve, hs2] at this
        exact this
      have Hs1 := hide hs1; have K2 := hide k2; have F2 := hide f2; have L2 := hide l2
      clear hrow1 hg hxs hsz k2 f2 l2 hbl hm1 hs1 hkj hko hfu tr2 nd2 hve hle1 hle2 hw1 hw2 ea hs2 hs3 hS
      simp only [Value.slice.injEq, true_and] at e1
      obtain ⟨rfl, rfl⟩ := e1
      unfold ptrTo at hcell B
      generalize T.getD kids[j] default = kn at *
      generalize kids[j] = kid at *
      generalize blkOf ms kid = kb at *
      obtain ⟨S1, S2⟩ := S
      simp only at *
      go_wp2_with (first
        | (go_at_call 190; refine E.out.mono ?_; rintro e w5 ⟨rfl, p5⟩; obtain ⟨vc5, vb5, k5, f5⟩ := p5; have K5 := hide k5; have F5 := hide (F2.out.trans f5); have V5 := hide (L2.out.next f5); clear k5 f5)
        | (go_at_call 82; refine (cadd_any 18 0 _ K5.out M3).mono ?_; rintro e w6 ⟨rfl, p6⟩; obtain ⟨vc6, vb6, k6, f6⟩ := p6; have K6 := hide k6; have F6 := hide (F5.out.trans f6); have V6 := hide (V5.out.next f6); clear k6 f6 K5)
        | (go_at_call 148; refine (B.out _ _ _ (Ht.out.low (F6.out.low H.out)) K6.out).mono ?_; rintro e w7 ⟨rfl, p7⟩; obtain ⟨vc7, vb7, k7, f7⟩ := p7; have K7 := hide k7; have F7 := hide (F6.out.trans f7); have V7 := hide (V6.out.next f7); clear k7 f7)
        | (go_at_call 82; refine (cadd_any 19 0 _ K7.out M4).mono ?_; rintro e w8 ⟨rfl, p8⟩; obtain ⟨vc8, vb8, k8, f8⟩ := p8; have K8 := hide k8; have F8 := hide (F7.out.trans f8); have V8 := hide (V7.out.next f8); clear k8 f8 K7)
        | (at_builtin; refine wpList_appendM (by decide) Tryz.underlying36 intInfo' rfl (by decide) rfl _ _ rfl (.slice la S2.length lc) S2.length (natsV S2) rfl (V8.out.own.alloc _) ⟨w8.heap.size, 0, none⟩ 1 1 [.int .i64 s3.code.length] rfl rfl (by exact row_new _ _ rfl _ _) (by intro u hu; simp at hu; subst hu; rfl) (by omega) ?_; intro v' w9 o9 g9 b9; obtain ⟨la', lc', rfl⟩ := ownsRow_len o9; have R9 := hide (LvAt.more V8.out K8.out F8.out g9 o9 b9 rfl); clear o9 g9 b9)
        | (go_at_call 191; refine (caim_at _ R9.out.2.1 s2.code.length M5 M6).mono ?_; rintro e w10 ⟨rfl, p10⟩; obtain ⟨vc10, vb10, k10, f10⟩ := p10; have K10 := hide k10; have F10 := hide (R9.out.2.2.trans f10); have V10 := hide (R9.out.1.next f10); clear k10 f10))
      go_roundw
      case rel => exact ⟨j + 1, _, _, by omega, by go_num, by rw [Hs1.out]; exact K10.out, F10.out, by rw [Hs1.out]; simpa using V10.out⟩
      case measure => simp [intOf]; omega
    · have e : kids.take j = kids := List.take_of_length_le (by omega)
      have hcn := Hcnt.out j hj
      have hin := Hin.out j
      rw [e, ← Hp.out] at k2 l2 hcn hin
      have el : ((kids.take j).foldl (whenM T (belowF T f)) (s.add 0 0, [])).2.length = p.2.length := by rw [e, ← Hp.out]
      rw [el]
      have K2 := hide k2; have F2 := hide f2; have V2 := hide l2
      have hin2 : PlIn (p.1.add 20 0, p.2) := fun x hx => by
        have h1 := hin x hx
        have h2 := (add_le' p.1 20 0).1
        show x < (p.1.add 20 0).code.length
        omega
      have M7 : (p.1.add 20 0).code.length ≤ 1000000 := by have e : (p.1.add 20 0).code.length = p.1.code.length + 1 := by simp [CM.add]
                                                           omega
      have Hin2 := hide hin2
      clear k2 f2 l2 hin hin2 e el
      go_wp2_with (first
        | (go_at_call 82; refine (cadd_any 20 0 _ K2.out (by omega)).mono ?_; rintro e w5 ⟨rfl, p5⟩; obtain ⟨vc5, vb5, k5, f5⟩ := p5; have K5 := hide k5; have F5 := hide (F2.out.trans f5); have V5 := hide (V2.out.next f5); clear k5 f5 K2)
        | (go_at_call 191; refine (caim_any _ K5.out p.2 la lc V5.out.own (fun g hg => (V5.out.new g hg).2) Hin2.out M7 (by omega)).mono ?_; rintro e w6 ⟨rfl, p6⟩; obtain ⟨vc6, vb6, k6, f6⟩ := p6; have K6 := hide k6; have F6 := hide (F5.out.trans f6); clear k6 f6))
      go_end0
      exact ⟨rfl, _, _, K6.out, F6.out⟩
end
end Go.Proofs.YtnhidaamfnjdjaaGreatDoor
