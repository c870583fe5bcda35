import Derived.Test.YtnhidaamfnjdjaaGreatDoorZMakA
import Derived.Test.YtnhidaamfnjdjaaGreatDoorZPure
namespace Go.Proofs.YtnhidaamfnjdjaaGreatDoor
open Go.RowKit Go.Maps
inductive MR where
 | mach|code|br|vars|chans|stack|urg|oth|slp|out|proc (i:Nat)|opn (i:Nat)|num (c:Nat)|junk
structure MV where
 co:Value
 br:Value
 va:Value
 ch:Value
 st:Value
 ur:Value
 ot:Value
 sl:Value
 wr:Value
 pb:List Nat
 ov:List Value
 nv:List Value
def intV (n:Int):Value:=.int .i64 n
def ptrB (b:Nat):Value:=.pointer (some ⟨b,0,none⟩)
def MV.ptr (V:MV) (i:Nat):Value:=ptrB (V.pb.getD i 0)
def MV.ptrO (V:MV) (o:Option Nat):Value:=.pointer (o.map fun i=>⟨V.pb.getD i 0,0,none⟩)
def toldV (how b:Nat):Value:=if how=1 then .func (.func 161) #[ptrB b] #[] else if how=2 then .func (.func 165) #[ptrB b] #[] else .nilFunc
def MV.mach (V:MV) (s:MS):Array Value:=#[V.co,V.br,V.va,V.ch,V.st,V.ptrO s.cur,V.ur,V.ot,V.sl,intV s.slept,intV s.time,V.wr,.bool s.ended,.bool s.faulty]
def MV.proc (V:MV) (mb i:Nat) (p:PPr):Array Value:=#[ptrB mb,V.ptrO p.above,.bool p.urg,intV p.at_,V.ov.getD i (.slice none 0 0),intV p.below,toldV p.told (V.pb.getD i 0)]
def MV.chan (V:MV) (c:Nat) (x:PCh):List Value:=[V.nv.getD c (.slice none 0 0),V.ptrO x.rd,V.ptrO x.wr]
def MV.chans (V:MV) (l:List PCh):List Value:=(l.mapIdx fun c x=>V.chan c x).flatten
def MV.slps (V:MV) (l:List (Int×Int×Nat)):List Value:=(l.map fun x=>[intV x.1,intV x.2.1,V.ptr x.2.2]).flatten
def Ro' (ρ:Nat->MR) (v:Value) (r:MR):Prop:=∀ g,v.ownBlock=some g->ρ g=r
structure MsIf (A:MR->Prop) (w:World) (mb:Nat) (ρ:Nat->MR) (C:CM) (V:MV) (s:MS):Prop where
 blk:¬ A .mach->w.heap[mb]?=some (.cells (V.mach s) 102)
 rb:ρ mb=.mach∧mb<w.heap.size
 code:¬ A .code->w.ownsRow 0 105 2 V.co C.code.length (codeV C.code)∧Ro' ρ V.co .code
 brs:¬ A .br->w.ownsRow 0 207 3 V.br C.br.length (waysV C.br)∧Ro' ρ V.br .br
 vars:¬ A .vars->QAt w 3 V.va (s.vars.map intV)∧Ro' ρ V.va .vars
 chans:¬ A .chans->w.ownsRow 0 163 3 V.ch s.chans.length (V.chans s.chans)∧Ro' ρ V.ch .chans
 stack:¬ A .stack->QAt w 3 V.st (s.stack.map intV)∧Ro' ρ V.st .stack
 urg:¬ A .urg->QAt w 96 V.ur (s.urg.map V.ptr)∧Ro' ρ V.ur .urg
 oth:¬ A .oth->QAt w 96 V.ot (s.oth.map V.ptr)∧Ro' ρ V.ot .oth
 slp:¬ A .slp->w.ownsRow 0 212 3 V.sl s.asleep.length (V.slps s.asleep)∧Ro' ρ V.sl .slp
 out:¬ A .out->QAt w 3 V.wr (s.out.map intV)∧Ro' ρ V.wr .out
 proc:∀ i p,s.procs[i]?=some p->¬ A (.proc i)->w.heap[V.pb.getD i 0]?=some (.cells (V.proc mb i p) 108)∧ρ (V.pb.getD i 0)=.proc i
 opn:∀ i p,s.procs[i]?=some p->¬ A (.opn i)->w.ownsRow 0 207 3 (V.ov.getD i (.slice none 0 0)) p.opn.length (waysV p.opn)∧Ro' ρ (V.ov.getD i (.slice none 0 0)) (.opn i)
 num:∀ c x,s.chans[c]?=some x->¬ A (.num c)->QAt w 3 (V.nv.getD c (.slice none 0 0)) (x.nums.map intV)∧Ro' ρ (V.nv.getD c (.slice none 0 0)) (.num c)
 lens:V.pb.length=s.procs.length∧V.ov.length=s.procs.length∧V.nv.length=s.chans.length
def NoR:MR->Prop:=fun _=>False
abbrev MsAt (w:World) (mb:Nat) (ρ:Nat->MR) (C:CM) (V:MV) (s:MS):Prop:=MsIf NoR w mb ρ C V s
structure MsFr (A:MR->Prop) (ρ ρ':Nat->MR) (w w':World):Prop where
 os:w'.os=w.os
 tape:w'.tape=w.tape
 output:w'.output=w.output
 size:w.heap.size≤w'.heap.size
 block:∀ g,g<w.heap.size->¬ A (ρ g)->w'.heap[g]?=w.heap[g]?∧ρ' g=ρ g
theorem Ro'.keep {A:MR->Prop} {ρ ρ':Nat->MR} {w w':World} {v:Value} {r:MR} (h:Ro' ρ v r) (hA:¬ A r) (f:MsFr A ρ ρ' w w') (hlt:∀ g,v.ownBlock=some g->g<w.heap.size):Ro' ρ' v r∧∀ g,v.ownBlock=some g->w'.heap[g]?=w.heap[g]?:=by
 refine⟨fun g hg=>?_,fun g hg=>?_⟩
 ·rw [(f.block g (hlt g hg) (by rw [h g hg];exact hA)).2];exact h g hg
 ·exact (f.block g (hlt g hg) (by rw [h g hg];exact hA)).1
theorem MsIf.keep {A:MR->Prop} {ρ ρ':Nat->MR} {w w':World} {mb:Nat} {C:CM} {V:MV} {s:MS} (h:MsAt w mb ρ C V s) (f:MsFr A ρ ρ' w w') (hm:ρ' mb=.mach):MsIf A w' mb ρ' C V s where
 blk:=fun hA=>by rw [(f.block mb h.rb.2 (by rw [h.rb.1];exact hA)).1];exact h.blk (fun x=>x)
 rb:=⟨hm,Nat.lt_of_lt_of_le h.rb.2 f.size⟩
 code:=fun hA=>by
  have k:=h.code (fun x=>x)
  have r:=k.2.keep hA f (fun g hg=>own_lt k.1 hg)
  exact⟨ownsRow_frame k.1 r.2,r.1⟩
 brs:=fun hA=>by
  have k:=h.brs (fun x=>x)
  have r:=k.2.keep hA f (fun g hg=>own_lt k.1 hg)
  exact⟨ownsRow_frame k.1 r.2,r.1⟩
 vars:=fun hA=>by
  have k:=h.vars (fun x=>x)
  have r:=k.2.keep hA f (fun g hg=>k.1.lt hg)
  exact⟨k.1.frame r.2,r.1⟩
 chans:=fun hA=>by
  have k:=h.chans (fun x=>x)
  have r:=k.2.keep hA f (fun g hg=>own_lt k.1 hg)
  exact⟨ownsRow_frame k.1 r.2,r.1⟩
 stack:=fun hA=>by
  have k:=h.stack (fun x=>x)
  have r:=k.2.keep hA f (fun g hg=>k.1.lt hg)
  exact⟨k.1.frame r.2,r.1⟩
 urg:=fun hA=>by
  have k:=h.urg (fun x=>x)
  have r:=k.2.keep hA f (fun g hg=>k.1.lt hg)
  exact⟨k.1.frame r.2,r.1⟩
 oth:=fun hA=>by
  have k:=h.oth (fun x=>x)
  have r:=k.2.keep hA f (fun g hg=>k.1.lt hg)
  exact⟨k.1.frame r.2,r.1⟩
 slp:=fun hA=>by
  have k:=h.slp (fun x=>x)
  have r:=k.2.keep hA f (fun g hg=>own_lt k.1 hg)
  exact⟨ownsRow_frame k.1 r.2,r.1⟩
 out:=fun hA=>by
  have k:=h.out (fun x=>x)
  have r:=k.2.keep hA f (fun g hg=>k.1.lt hg)
  exact⟨k.1.frame r.2,r.1⟩
 proc:=fun i p hp hA=>by
  have k:=h.proc i p hp (fun x=>x)
  have r:=f.block _ (lt_of_at k.1) (by rw [k.2];exact hA)
  exact⟨by rw [r.1];exact k.1,by rw [r.2];exact k.2⟩
 opn:=fun i p hp hA=>by
  have k:=h.opn i p hp (fun x=>x)
  have r:=k.2.keep hA f (fun g hg=>own_lt k.1 hg)
  exact⟨ownsRow_frame k.1 r.2,r.1⟩
 num:=fun c x hx hA=>by
  have k:=h.num c x hx (fun x=>x)
  have r:=k.2.keep hA f (fun g hg=>k.1.lt hg)
  exact⟨k.1.frame r.2,r.1⟩
 lens:=h.lens
theorem MsFr.weak {A B:MR->Prop} {ρ ρ':Nat->MR} {w w':World} (h:MsFr A ρ ρ' w w') (hab:∀ r,A r->B r):MsFr B ρ ρ' w w':=⟨h.os,h.tape,h.output,h.size,fun g hg hb=>h.block g hg (fun x=>hb (hab _ x))⟩
theorem MsFr.trans {ρ ρ1 ρ2:Nat->MR} {w w1 w2:World} (h:MsFr (fun r=>r≠.junk) ρ ρ1 w w1) (k:MsFr (fun r=>r≠.junk) ρ1 ρ2 w1 w2):MsFr (fun r=>r≠.junk) ρ ρ2 w w2 :=
 ⟨k.os.trans h.os,k.tape.trans h.tape,k.output.trans h.output,Nat.le_trans h.size k.size,fun g hg hb=>by
  have a:=h.block g hg hb
  have c:=k.block g (Nat.lt_of_lt_of_le hg h.size) (by rw [a.2];exact hb)
  exact⟨c.1.trans a.1,c.2.trans a.2⟩⟩
structure MsGo (V V':MV) (ρ ρ':Nat->MR) (w w':World):Prop where
 fr:MsFr (fun r=>r≠.junk) ρ ρ' w w'
 pb:V.pb <+: V'.pb
theorem MsGo.trans {V V1 V2:MV} {ρ ρ1 ρ2:Nat->MR} {w w1 w2:World} (h:MsGo V V1 ρ ρ1 w w1) (k:MsGo V1 V2 ρ1 ρ2 w1 w2):MsGo V V2 ρ ρ2 w w2:=⟨h.fr.trans k.fr,h.pb.trans k.pb⟩
theorem MsGo.ptr {V V':MV} {ρ ρ':Nat->MR} {w w':World} (h:MsGo V V' ρ ρ' w w') {p:Nat} (hp:p<V.pb.length):V'.pb.getD p 0=V.pb.getD p 0:=by
 obtain⟨t,ht⟩:=h.pb
 rw [<-ht,List.getD,List.getD,List.getElem?_append_left hp]
def MsPost (mb:Nat) (C:CM) (ρ:Nat->MR) (V:MV) (w:World) (s':MS) (w':World):Prop:=∃ ρ' V',MsAt w' mb ρ' C V' s'∧MsGo V V' ρ ρ' w w'
end Go.Proofs.YtnhidaamfnjdjaaGreatDoor
namespace Go.Proofs.YtnhidaamfnjdjaaGreatDoor
open Go.RowKit Go.Maps
def newR (z:Nat) (ρ:Nat->MR) (v:Value) (r:MR):Nat->MR:=fun g=>if g<z then ρ g else if v.ownBlock=some g then r else .junk
theorem newR_old {z:Nat} {ρ:Nat->MR} {v:Value} {r:MR} {g:Nat} (h:g<z):newR z ρ v r g=ρ g:=by unfold newR;rw [if_pos h]
def Two (r:MR):MR->Prop:=fun x=>x=.mach∨x=r
theorem fr_app {w w4:World} {mb k:Nat} {ρ:Nat->MR} {O:Obj} {r:MR} {old v':Value} (hm:ρ mb=.mach) (ho:Ro' ρ old r) (g4:(w.alloc O).grownBy w4 old.ownBlock):MsFr (Two r) ρ (newR w.heap.size ρ v' r) w (w4.setCell ⟨mb,k,none⟩ v'):=by
 have hsz:(w.alloc O).heap.size=w.heap.size+1:=by simp
 refine⟨g4.os,g4.tape,g4.output,?_,fun g hg hA=>⟨?_,newR_old hg⟩⟩
 ·have:=g4.size
  have h2:(w4.setCell ⟨mb,k,none⟩ v').heap.size=w4.heap.size:=by simp
  omega
 ·rw [Below.heap_setCell _ _ _ _ (fun e=>hA (.inl (by have:g=mb:=e;rw [this];exact hm))),g4.block g (by omega) (fun e=>hA (.inr (ho g e.symm)))]
  exact Below.heap_alloc _ _ _ hg
theorem ro_app {w w4:World} {ρ:Nat->MR} {O:Obj} {r:MR} {old v':Value} (ho:Ro' ρ old r) (hlt:∀ g,old.ownBlock=some g->g<w.heap.size) (b4:v'.ownBlock=old.ownBlock∨∃ g,v'.ownBlock=some g∧(w.alloc O).heap.size≤g) (_:w4=w4):Ro' (newR w.heap.size ρ v' r) v' r:=by
 intro g hg
 have hsz:(w.alloc O).heap.size=w.heap.size+1:=by simp
 rcases b4 with e|⟨g',e,hge⟩
 ·rw [newR_old (hlt g (by rw [<-e];exact hg))]
  exact ho g (by rw [<-e];exact hg)
 ·rw [e] at hg
  injection hg with hg
  subst hg
  unfold newR
  rw [if_neg (by omega),if_pos e]
theorem junk_of {r:MR} (hr:r≠.junk):∀ x,Two r x->x≠.junk:=by
 rintro x (h|h) e
 ·rw [h] at e;cases e
 ·rw [h] at e;exact hr e
theorem mput_final {w w4:World} {mb:Nat} {ρ:Nat->MR} {C:CM} {V:MV} {s:MS} {O:Obj} {v':Value} {n:Int} (h:MsAt w mb ρ C V s) (g4:(w.alloc O).grownBy w4 V.st.ownBlock) (q4:QAt w4 3 v' (s.stack.map intV++[intV n])) (b4:v'.ownBlock=V.st.ownBlock∨∃ g,v'.ownBlock=some g∧(w.alloc O).heap.size≤g) :
  MsPost mb C ρ V w (s.put n) (w4.setCell ⟨mb,4,none⟩ v'):=by
 have hst:=h.stack (fun x=>x)
 have fr:=fr_app (k:=4) (v':=v') h.rb.1 hst.2 g4
 have kp:=MsIf.keep h fr (by rw [newR_old h.rb.2];exact h.rb.1)
 have nm:v'.ownBlock≠some mb:=by
  rcases b4 with e|⟨g,e,hg⟩
  ·rw [e];intro x;have:=hst.2 mb x;rw [h.rb.1] at this;cases this
  ·have hsz:(w.alloc O).heap.size=w.heap.size+1:=by simp
   have:=h.rb.2
   rw [e];intro x;injection x with x;omega
 have hbm:w4.heap[mb]?=some (.cells (V.mach s) 102):=by
  have hsz:(w.alloc O).heap.size=w.heap.size+1:=by simp
  have hlt:=h.rb.2
  rw [g4.block mb (by omega) (fun e=>by have:=hst.2 mb e.symm;rw [h.rb.1] at this;cases this),Below.heap_alloc _ _ _ hlt]
  exact h.blk (fun x=>x)
 have out:∀ r,r≠.mach->r≠.stack->¬ Two .stack r:=fun r h1 h2 x=>x.elim h1 h2
 refine⟨_,{ V with st:=v' },⟨fun _=>?_,kp.rb,fun _=>kp.code (out _ (by simp) (by simp)),fun _=>kp.brs (out _ (by simp) (by simp)),fun _=>kp.vars (out _ (by simp) (by simp)),fun _=>kp.chans (out _ (by simp) (by simp)),fun _=>⟨?_,ro_app hst.2 (fun g hg=>hst.1.lt hg) b4 (rfl:w4=w4)⟩,fun _=>kp.urg (out _ (by simp) (by simp)),fun _=>kp.oth (out _ (by simp) (by simp)),fun _=>kp.slp (out _ (by simp) (by simp)),fun _=>kp.out (out _ (by simp) (by simp)),fun i p hp _=>kp.proc i p hp (out _ (by simp) (by simp)),fun i p hp _=>kp.opn i p hp (out _ (by simp) (by simp)),fun c x hx _=>kp.num c x hx (out _ (by simp) (by simp)),kp.lens⟩,fr.weak (junk_of (by simp)),List.prefix_rfl⟩
 ·exact at_setCell hbm 4 v'
 ·have e:(s.put n).stack.map intV=s.stack.map intV++[intV n]:=by simp [MS.put]
  rw [e]
  exact q4.frame (fun g hg=>Below.heap_setCell _ _ _ _ (fun x=>nm (by rw [hg];exact congrArg some x)))
set_option maxRecDepth 20000 in
set_option maxHeartbeats 2000000 in
theorem mput_any {mb:Nat} {ρ:Nat->MR} {C:CM} {V:MV} {s:MS} (n:Int) (w:World) (h:MsAt w mb ρ C V s) (hn:s.stack.length+1≤1000000000000) :
  Calls Tryz.prog 84 #[.pointer (some ⟨mb,0,none⟩),.int .i64 n] w fun e w'=>e=.returned (.tuple #[])∧MsPost mb C ρ V w (s.put n) w':=by
 have c4:w.cell? ⟨mb,4,none⟩=some V.st:=cell_at (h.blk (fun x=>x)) 4
 have q:=h.stack (fun x=>x)
 obtain⟨va,cc,hv⟩:=q.1.len
 have hbm:=h.blk (fun x=>x)
 have hlt:=h.rb.2
 have law:∀ (w4:World),(w.alloc (.cells #[.int .i64 n] 3)).grownBy w4 V.st.ownBlock->w4.heap[mb]?=some (.cells (V.mach s) 102):=by
  intro w4 g4
  have hsz:(w.alloc (.cells #[.int .i64 n] 3)).heap.size=w.heap.size+1:=by simp
  rw [g4.block mb (by omega) (fun e=>by have:=q.2 mb e.symm;rw [h.rb.1] at this;cases this),Below.heap_alloc _ _ _ hlt]
  exact hbm
 have fin:∀ (v':Value) (w4:World),QAt w4 3 v' (s.stack.map intV++[.int .i64 n])->(w.alloc (.cells #[.int .i64 n] 3)).grownBy w4 V.st.ownBlock->(v'.ownBlock=V.st.ownBlock∨∃ g,v'.ownBlock=some g∧(w.alloc (.cells #[.int .i64 n] 3)).heap.size≤g)->MsPost mb C ρ V w (s.put n) (w4.setCell ⟨mb,4,none⟩ v'):=fun v' w4 q4 g4 b4=>mput_final h g4 q4 b4
 have qa:QAt (w.alloc (.cells #[.int .i64 n] 3)) 3 V.st (s.stack.map intV):=q.1.frame (fun g hg=>Below.heap_alloc _ _ _ (q.1.lt hg))
 rw [hv] at c4
 have Law:=hide law;have Fin:=hide fin;have Qa:=hide qa;have Hv:=hide hv
 clear h q hbm law fin qa hv
 rw [List.length_map] at c4 Hv
 go_enter Tryz.func84,Tryz.ntmps84
 go_wp2_with (at_builtin;refine wpList_appendQ Tryz.underlying36 intInfo' rfl (by decide) rfl _ _ rfl (.slice va s.stack.length cc) (s.stack.map intV) rfl (by rw [<-Hv.out];exact Qa.out) ⟨w.heap.size,0,none⟩ 1 (.int .i64 n) rfl (by exact cell_at (at_new w _) 0) rfl (by rw [List.length_map];exact hn) ?_;intro v' w4 q4 g4 b4;obtain⟨va',vc',hv'⟩:=q4.len;subst hv';rw [<-Hv.out] at g4 b4;have hb4:=Law.out _ g4;have y4:w4.cell? ⟨mb,4,none⟩=some (.slice va s.stack.length cc):=(by rw [<-Hv.out];exact cell_at hb4 4);have z4:∀ i,w4.frozen? ⟨mb,i,none⟩=false:=(fun i=>frozen_at hb4 i);have R:=hide (Fin.out _ _ q4 g4 b4);clear q4 g4 b4 hb4)
 go_end0
 exact⟨rfl,by simpa using R.out⟩
end Go.Proofs.YtnhidaamfnjdjaaGreatDoor
namespace Go.Proofs.YtnhidaamfnjdjaaGreatDoor
open Go.RowKit Go.Maps
theorem MsIf.keepA {A:MR->Prop} {ρ ρ':Nat->MR} {w w':World} {mb:Nat} {C:CM} {V:MV} {s:MS} (h:MsIf A w mb ρ C V s) (f:MsFr A ρ ρ' w w') (hm:ρ' mb=.mach):MsIf A w' mb ρ' C V s where
 blk:=fun hA=>by rw [(f.block mb h.rb.2 (by rw [h.rb.1];exact hA)).1];exact h.blk hA
 rb:=⟨hm,Nat.lt_of_lt_of_le h.rb.2 f.size⟩
 code:=fun hA=>by
  have k:=h.code hA
  have r:=k.2.keep hA f (fun g hg=>own_lt k.1 hg)
  exact⟨ownsRow_frame k.1 r.2,r.1⟩
 brs:=fun hA=>by
  have k:=h.brs hA
  have r:=k.2.keep hA f (fun g hg=>own_lt k.1 hg)
  exact⟨ownsRow_frame k.1 r.2,r.1⟩
 vars:=fun hA=>by
  have k:=h.vars hA
  have r:=k.2.keep hA f (fun g hg=>k.1.lt hg)
  exact⟨k.1.frame r.2,r.1⟩
 chans:=fun hA=>by
  have k:=h.chans hA
  have r:=k.2.keep hA f (fun g hg=>own_lt k.1 hg)
  exact⟨ownsRow_frame k.1 r.2,r.1⟩
 stack:=fun hA=>by
  have k:=h.stack hA
  have r:=k.2.keep hA f (fun g hg=>k.1.lt hg)
  exact⟨k.1.frame r.2,r.1⟩
 urg:=fun hA=>by
  have k:=h.urg hA
  have r:=k.2.keep hA f (fun g hg=>k.1.lt hg)
  exact⟨k.1.frame r.2,r.1⟩
 oth:=fun hA=>by
  have k:=h.oth hA
  have r:=k.2.keep hA f (fun g hg=>k.1.lt hg)
  exact⟨k.1.frame r.2,r.1⟩
 slp:=fun hA=>by
  have k:=h.slp hA
  have r:=k.2.keep hA f (fun g hg=>own_lt k.1 hg)
  exact⟨ownsRow_frame k.1 r.2,r.1⟩
 out:=fun hA=>by
  have k:=h.out hA
  have r:=k.2.keep hA f (fun g hg=>k.1.lt hg)
  exact⟨k.1.frame r.2,r.1⟩
 proc:=fun i p hp hA=>by
  have k:=h.proc i p hp hA
  have r:=f.block _ (lt_of_at k.1) (by rw [k.2];exact hA)
  exact⟨by rw [r.1];exact k.1,by rw [r.2];exact k.2⟩
 opn:=fun i p hp hA=>by
  have k:=h.opn i p hp hA
  have r:=k.2.keep hA f (fun g hg=>own_lt k.1 hg)
  exact⟨ownsRow_frame k.1 r.2,r.1⟩
 num:=fun c x hx hA=>by
  have k:=h.num c x hx hA
  have r:=k.2.keep hA f (fun g hg=>k.1.lt hg)
  exact⟨k.1.frame r.2,r.1⟩
 lens:=h.lens
def OnlyM:MR->Prop:=fun r=>r=.mach
theorem nM {r:MR} (h:r≠.mach):¬ OnlyM r:=h
theorem MsIf.strip {w:World} {mb:Nat} {ρ:Nat->MR} {C:CM} {V:MV} {s:MS} (h:MsAt w mb ρ C V s):MsIf OnlyM w mb ρ C V s :=
 ⟨fun x=>absurd rfl x,h.rb,fun _=>h.code (fun x=>x),fun _=>h.brs (fun x=>x),fun _=>h.vars (fun x=>x),fun _=>h.chans (fun x=>x),fun _=>h.stack (fun x=>x),fun _=>h.urg (fun x=>x),fun _=>h.oth (fun x=>x),fun _=>h.slp (fun x=>x),fun _=>h.out (fun x=>x),fun i p hp _=>h.proc i p hp (fun x=>x),fun i p hp _=>h.opn i p hp (fun x=>x),fun c x hx _=>h.num c x hx (fun x=>x),h.lens⟩
theorem MsIf.full {w:World} {mb:Nat} {ρ:Nat->MR} {C:CM} {V:MV} {s:MS} (h:MsIf OnlyM w mb ρ C V s) (hb:w.heap[mb]?=some (.cells (V.mach s) 102)):MsAt w mb ρ C V s :=
 ⟨fun _=>hb,h.rb,fun _=>h.code (nM (by simp)),fun _=>h.brs (nM (by simp)),fun _=>h.vars (nM (by simp)),fun _=>h.chans (nM (by simp)),fun _=>h.stack (nM (by simp)),fun _=>h.urg (nM (by simp)),fun _=>h.oth (nM (by simp)),fun _=>h.slp (nM (by simp)),fun _=>h.out (nM (by simp)),fun i p hp _=>h.proc i p hp (nM (by simp)),fun i p hp _=>h.opn i p hp (nM (by simp)),fun c x hx _=>h.num c x hx (nM (by simp)),h.lens⟩
theorem fr_mach {w:World} {mb:Nat} {ρ:Nat->MR} (hm:ρ mb=.mach) (k:Nat) (v:Value):MsFr OnlyM ρ ρ w (w.setCell ⟨mb,k,none⟩ v) :=
 ⟨rfl,rfl,rfl,by simp,fun g _ hA=>⟨Below.heap_setCell _ _ _ _ (fun e=>hA (by have:g=mb:=e;rw [this];exact hm)),rfl⟩⟩
theorem only_junk:∀ x,OnlyM x->x≠.junk:=by
 intro x h e
 rw [show x=.mach from h] at e
 cases e
theorem mset {w:World} {mb:Nat} {ρ:Nat->MR} {C:CM} {V V':MV} {s s':MS} (h:MsAt w mb ρ C V s) (k:Nat) (v:Value) (hc:(V.mach s).setIfInBounds k v=V'.mach s') (X:MsIf OnlyM w mb ρ C V' s') (hpb:V'.pb=V.pb:=by rfl):MsAt (w.setCell ⟨mb,k,none⟩ v) mb ρ C V' s'∧MsGo V V' ρ ρ w (w.setCell ⟨mb,k,none⟩ v):=by
 have f:=fr_mach (w:=w) h.rb.1 k v
 refine⟨(X.keepA f h.rb.1).full ?_,f.weak only_junk,by rw [hpb];exact List.prefix_rfl⟩
 rw [at_setCell (h.blk (fun x=>x)) k v,hc]
theorem MsGo.refl (V:MV) (ρ:Nat->MR) (w:World):MsGo V V ρ ρ w w:=⟨⟨rfl,rfl,rfl,Nat.le_refl _,fun _ _ _=>⟨rfl,rfl⟩⟩,List.prefix_rfl⟩
theorem MsAt.drew {w:World} {mb:Nat} {ρ:Nat->MR} {C:CM} {V:MV} {s:MS} (h:MsAt w mb ρ C V s):MsAt w.drew mb ρ C V s :=
 MsIf.keepA h ⟨rfl,rfl,rfl,Nat.le_refl _,fun _ _ _=>⟨rfl,rfl⟩⟩ h.rb.1
theorem MsGo.drew {V V':MV} {ρ ρ':Nat->MR} {w w':World} (h:MsGo V V' ρ ρ' w w'):MsGo V V' ρ ρ' w w'.drew:=⟨⟨h.fr.os,h.fr.tape,h.fr.output,h.fr.size,h.fr.block⟩,h.pb⟩
theorem MsIf.withStack {A:MR->Prop} {w:World} {mb:Nat} {ρ:Nat->MR} {C:CM} {V:MV} {s:MS} (h:MsIf A w mb ρ C V s) (v:Value) (l:List Int) (hq:QAt w 3 v (l.map intV)∧Ro' ρ v .stack) (hA:A .mach):MsIf A w mb ρ C { V with st:=v } { s with stack:=l } :=
 ⟨fun x=>absurd hA x,h.rb,h.code,h.brs,h.vars,h.chans,fun _=>hq,h.urg,h.oth,h.slp,h.out,h.proc,h.opn,h.num,h.lens⟩
set_option maxRecDepth 20000 in
set_option maxHeartbeats 2000000 in
theorem mtake_st {mb:Nat} {ρ:Nat->MR} {C:CM} {V:MV} {s:MS} (l:List Int) (n:Int) (hs:s.stack=l++[n]) (w:World) (h:MsAt w mb ρ C V s) (hn:l.length≤1000000000000) :
  Calls Tryz.prog 159 #[.pointer (some ⟨mb,0,none⟩)] w fun e w'=>e=.returned (.int .i64 n)∧∃ v,MsAt w' mb ρ C { V with st:=v } s.pop∧MsGo V { V with st:=v } ρ ρ w w':=by
 have c4:w.cell? ⟨mb,4,none⟩=some V.st:=cell_at (h.blk (fun x=>x)) 4
 have z4:∀ i,w.frozen? ⟨mb,i,none⟩=false:=fun i=>frozen_at (h.blk (fun x=>x)) i
 have q:=h.stack (fun x=>x)
 have hl:(s.stack.map intV).length=l.length+1:=by rw [hs];simp
 obtain⟨g,off,cap,hv,h1,h2,hcell,hfz,hlt⟩:=q.1.shape (by omega)
 have hx:=hcell l.length (.int .i64 n) (by rw [hs];simp [intV])
 have hcut:QAt w 3 (.slice (some ⟨g,off,none⟩) l.length cap) (l.map intV)∧Ro' ρ (.slice (some ⟨g,off,none⟩) l.length cap) .stack:=by
  refine⟨?_,fun g' hg'=>q.2 g' (by rw [hv];exact hg')⟩
  have q1:=q.1
  rw [hv] at q1
  have q2:=q1.cut (n:=l.length) (by omega)
  have e:(s.stack.map intV).take l.length=l.map intV:=by rw [hs];simp
  rw [e] at q2
  exact q2
 have hpop:s.pop={ s with stack:=l }:=by unfold MS.pop;rw [hs];simp
 have X:=(MsIf.strip h).withStack (.slice (some ⟨g,off,none⟩) l.length cap) l hcut rfl
 have fin:=mset h 4 (.slice (some ⟨g,off,none⟩) l.length cap) rfl X
 have Fin:=hide fin;have Hpop:=hide hpop
 rw [hv,hl] at c4
 rw [Hpop.out]
 rw [hl] at h1
 clear h q hcell hcut X fin hs hpop hv hl
 go_enter Tryz.func159,Tryz.ntmps159
 go_wp2_with fail
 go_ret
 exact⟨rfl,_,Fin.out.1,Fin.out.2⟩
theorem mtake_any {mb:Nat} {ρ:Nat->MR} {C:CM} {V:MV} {s:MS} (l:List Int) (n:Int) (hs:s.stack=l++[n]) (w:World) (h:MsAt w mb ρ C V s) (hn:l.length≤1000000000000) :
  Calls Tryz.prog 159 #[.pointer (some ⟨mb,0,none⟩)] w fun e w'=>e=.returned (.int .i64 n)∧MsPost mb C ρ V w s.pop w':=by
 refine (mtake_st l n hs w h hn).mono ?_
 rintro e w' ⟨he,v,k,f⟩
 exact⟨he,_,_,k,f⟩
set_option maxRecDepth 20000 in
set_option maxHeartbeats 2000000 in
theorem mtakeTwo_any {mb:Nat} {ρ:Nat->MR} {C:CM} {V:MV} {s:MS} (l:List Int) (a b:Int) (hs:s.stack=l++[a,b]) (w:World) (h:MsAt w mb ρ C V s) (hn:l.length+1≤1000000000000) :
  Calls Tryz.prog 156 #[.pointer (some ⟨mb,0,none⟩)] w fun e w'=>e=.returned (.tuple #[.int .i64 a,.int .i64 b])∧MsPost mb C ρ V w s.pop.pop w':=by
 have hs1:s.stack=(l++[a])++[b]:=by rw [hs];simp
 have hs2:s.pop.stack=l++[a]:=by unfold MS.pop;rw [hs];simp
 have T1:=hide (mtake_any (l++[a]) b hs1 w h (by simpa using hn))
 have T2:=hide (fun w ρ V h=>mtake_any (mb:=mb) (ρ:=ρ) (C:=C) (V:=V) (s:=s.pop) l a hs2 w h (by omega))
 clear h hs hs1 hs2
 generalize s.pop=s1 at *
 go_enter Tryz.func156,Tryz.ntmps156
 go_wp2_with (first|(go_at_call 159;refine T1.out.mono ?_;rintro e w1 ⟨rfl,p1⟩;obtain⟨ρ1,V1,k1,f1⟩:=p1;have K1:=hide k1;have F1:=hide f1;clear k1 f1 T1)|(go_at_call 159;refine (T2.out _ _ _ K1.out).mono ?_;rintro e w2 ⟨rfl,p2⟩;obtain⟨ρ2,V2,k2,f2⟩:=p2;have K2:=hide k2;have F2:=hide (F1.out.trans f2);clear k2 f2 K1))
 go_ret2
 exact⟨rfl,_,_,K2.out,F2.out⟩
theorem MsIf.scal {A:MR->Prop} {w:World} {mb:Nat} {ρ:Nat->MR} {C:CM} {V:MV} {s:MS} (h:MsIf A w mb ρ C V s) (hA:A .mach) (c:Option Nat) (x y:Int) (e f:Bool):MsIf A w mb ρ C V { s with cur:=c,slept:=x,time:=y,ended:=e,faulty:=f } :=
 ⟨fun z=>absurd hA z,h.rb,h.code,h.brs,h.vars,h.chans,h.stack,h.urg,h.oth,h.slp,h.out,h.proc,h.opn,h.num,h.lens⟩
theorem mleave_any {mb:Nat} {ρ:Nat->MR} {C:CM} {V:MV} {s:MS} (w:World) (h:MsAt w mb ρ C V s) :
  Calls Tryz.prog 167 #[.pointer (some ⟨mb,0,none⟩)] w fun e w'=>e=.returned (.tuple #[])∧MsAt w' mb ρ C V s.leave∧MsGo V V ρ ρ w w':=by
 have c5:w.cell? ⟨mb,5,none⟩=some (V.ptrO s.cur):=cell_at (h.blk (fun x=>x)) 5
 have z4:∀ i,w.frozen? ⟨mb,i,none⟩=false:=fun i=>frozen_at (h.blk (fun x=>x)) i
 have fin:=mset (V':=V) (s':=s.leave) h 5 (.pointer none) rfl ((MsIf.strip h).scal rfl none s.slept s.time s.ended s.faulty)
 have Fin:=hide fin
 unfold MV.ptrO at c5
 clear h fin
 go_enter Tryz.func167,Tryz.ntmps167
 go_wp2_with fail
 go_end0
 exact⟨rfl,Fin.out.1,Fin.out.2⟩
theorem mfault_any {mb:Nat} {ρ:Nat->MR} {C:CM} {V:MV} {s:MS} (w:World) (h:MsAt w mb ρ C V s) :
  Calls Tryz.prog 157 #[.pointer (some ⟨mb,0,none⟩)] w fun e w'=>e=.returned (.tuple #[])∧MsPost mb C ρ V w s.fault w':=by
 have c13:w.cell? ⟨mb,13,none⟩=some (.bool s.faulty):=cell_at (h.blk (fun x=>x)) 13
 have z4:∀ i,w.frozen? ⟨mb,i,none⟩=false:=fun i=>frozen_at (h.blk (fun x=>x)) i
 have fin:=mset (V':=V) (s':={ s with faulty:=true }) h 13 (.bool true) rfl ((MsIf.strip h).scal rfl s.cur s.slept s.time s.ended true)
 have Fin:=hide fin
 clear h fin
 go_enter Tryz.func157,Tryz.ntmps157
 go_wp2_with (go_at_call 167;refine (mleave_any _ Fin.out.1).mono ?_;rintro e w1 ⟨rfl,k1,f1⟩;have K1:=hide k1;have F1:=hide (Fin.out.2.trans f1);clear k1 f1)
 go_end0
 exact⟨rfl,_,_,K1.out,F1.out⟩
end Go.Proofs.YtnhidaamfnjdjaaGreatDoor
namespace Go.Proofs.YtnhidaamfnjdjaaGreatDoor
open Go.RowKit Go.Maps
section
variable {mb : Nat} {ρ : Nat → MR} {C : CM} {V : MV} {s : MS}
set_option maxRecDepth 20000 in
set_option maxHeartbeats 2000000 in
theorem madd_any (l:List Int) (a b:Int) (hs:s.stack=l++[a,b]) (k:Int) (w:World) (h:MsAt w mb ρ C V s) (hn:l.length+2≤1000000000000) :
  Calls Tryz.prog 86 #[.pointer (some ⟨mb,0,none⟩),.int .i64 k] w fun e w'=>e=.returned (.tuple #[])∧MsPost mb C ρ V w (s.pop.pop.put (w64 (a+b))) w':=by
 have T:=hide (mtakeTwo_any l a b hs w h (by omega))
 have hl:s.pop.pop.stack.length+1≤1000000000000:=by unfold MS.pop;rw [hs];simp;omega
 clear h hs
 generalize s.pop.pop=s2 at *
 unfold w64
 go_enter Tryz.func86,Tryz.ntmps86
 go_wp2_with (first|(go_at_call 156;refine T.out.mono ?_;rintro e w1 ⟨rfl,p1⟩;obtain⟨ρ1,V1,k1,f1⟩:=p1;have K1:=hide k1;have F1:=hide f1;clear k1 f1)|(go_at_call 84;refine (mput_any (wrap64 (a+b)) _ K1.out hl).mono ?_;rintro e w2 ⟨rfl,p2⟩;obtain⟨ρ2,V2,k2,f2⟩:=p2;have K2:=hide k2;have F2:=hide (F1.out.trans f2);clear k2 f2))
 go_end0
 exact⟨rfl,_,_,K2.out,F2.out⟩
set_option maxRecDepth 20000 in
set_option maxHeartbeats 2000000 in
theorem msubtract_any (l:List Int) (a b:Int) (hs:s.stack=l++[a,b]) (k:Int) (w:World) (h:MsAt w mb ρ C V s) (hn:l.length+2≤1000000000000) :
  Calls Tryz.prog 87 #[.pointer (some ⟨mb,0,none⟩),.int .i64 k] w fun e w'=>e=.returned (.tuple #[])∧MsPost mb C ρ V w (s.pop.pop.put (w64 (a - b))) w':=by
 have T:=hide (mtakeTwo_any l a b hs w h (by omega))
 have hl:s.pop.pop.stack.length+1≤1000000000000:=by unfold MS.pop;rw [hs];simp;omega
 clear h hs
 generalize s.pop.pop=s2 at *
 unfold w64
 go_enter Tryz.func87,Tryz.ntmps87
 go_wp2_with (first|(go_at_call 156;refine T.out.mono ?_;rintro e w1 ⟨rfl,p1⟩;obtain⟨ρ1,V1,k1,f1⟩:=p1;have K1:=hide k1;have F1:=hide f1;clear k1 f1)|(go_at_call 84;refine (mput_any (wrap64 (a - b)) _ K1.out hl).mono ?_;rintro e w2 ⟨rfl,p2⟩;obtain⟨ρ2,V2,k2,f2⟩:=p2;have K2:=hide k2;have F2:=hide (F1.out.trans f2);clear k2 f2))
 go_end0
 exact⟨rfl,_,_,K2.out,F2.out⟩
set_option maxRecDepth 20000 in
set_option maxHeartbeats 2000000 in
theorem mmultiply_any (l:List Int) (a b:Int) (hs:s.stack=l++[a,b]) (k:Int) (w:World) (h:MsAt w mb ρ C V s) (hn:l.length+2≤1000000000000) :
  Calls Tryz.prog 88 #[.pointer (some ⟨mb,0,none⟩),.int .i64 k] w fun e w'=>e=.returned (.tuple #[])∧MsPost mb C ρ V w (s.pop.pop.put (w64 (a * b))) w':=by
 have T:=hide (mtakeTwo_any l a b hs w h (by omega))
 have hl:s.pop.pop.stack.length+1≤1000000000000:=by unfold MS.pop;rw [hs];simp;omega
 clear h hs
 generalize s.pop.pop=s2 at *
 unfold w64
 go_enter Tryz.func88,Tryz.ntmps88
 go_wp2_with (first|(go_at_call 156;refine T.out.mono ?_;rintro e w1 ⟨rfl,p1⟩;obtain⟨ρ1,V1,k1,f1⟩:=p1;have K1:=hide k1;have F1:=hide f1;clear k1 f1)|(go_at_call 84;refine (mput_any (wrap64 (a * b)) _ K1.out hl).mono ?_;rintro e w2 ⟨rfl,p2⟩;obtain⟨ρ2,V2,k2,f2⟩:=p2;have K2:=hide k2;have F2:=hide (F1.out.trans f2);clear k2 f2))
 go_end0
 exact⟨rfl,_,_,K2.out,F2.out⟩
set_option maxHeartbeats 2000000 in
theorem mputTruth_any (t:Bool) (w:World) (h:MsAt w mb ρ C V s) (hn:s.stack.length+1≤1000000000000) :
  Calls Tryz.prog 158 #[.pointer (some ⟨mb,0,none⟩),.bool t] w fun e w'=>e=.returned (.tuple #[])∧MsPost mb C ρ V w (s.put (if t=true then 1 else 0)) w':=by
 have H:=hide h
 clear h
 cases t with
 | true =>
  rw [if_pos rfl]
  go_enter Tryz.func158,Tryz.ntmps158
  go_wp2_with (go_at_call 84;refine (mput_any 1 _ H.out hn).mono ?_;rintro e w2 ⟨rfl,p2⟩;have P2:=hide p2;clear p2)
  go_end0
  exact⟨rfl,P2.out⟩
 | false =>
  rw [if_neg (by simp)]
  go_enter Tryz.func158,Tryz.ntmps158
  go_wp2_with (go_at_call 84;refine (mput_any 0 _ H.out hn).mono ?_;rintro e w2 ⟨rfl,p2⟩;have P2:=hide p2;clear p2)
  go_end0
  exact⟨rfl,P2.out⟩
set_option maxRecDepth 20000 in
set_option maxHeartbeats 2000000 in
theorem mequal_any (l:List Int) (a b:Int) (hs:s.stack=l++[a,b]) (k:Int) (w:World) (h:MsAt w mb ρ C V s) (hn:l.length+2≤1000000000000) :
  Calls Tryz.prog 91 #[.pointer (some ⟨mb,0,none⟩),.int .i64 k] w fun e w'=>e=.returned (.tuple #[])∧MsPost mb C ρ V w (s.pop.pop.put (if a=b then 1 else 0)) w':=by
 have T:=hide (mtakeTwo_any l a b hs w h (by omega))
 have hl:s.pop.pop.stack.length+1≤1000000000000:=by unfold MS.pop;rw [hs];simp;omega
 have ei:(if a=b then (1:Int) else 0)=if (a == b)=true then 1 else 0:=by simp
 rw [ei]
 clear h hs ei
 generalize s.pop.pop=s2 at *
 generalize hq:(a == b)=t
 have P:Hid (∀ w ρ V,MsAt w mb ρ C V s2->Calls Tryz.prog 158 #[.pointer (some ⟨mb,0,none⟩),.bool ((a == b))] w fun e w'=>e=.returned (.tuple #[])∧MsPost mb C ρ V w (s2.put (if t=true then 1 else 0)) w'):=hide (fun w ρ V h=>by rw [hq];exact mputTruth_any t w h hl)
 generalize s2.put (if t=true then 1 else 0)=s3 at *
 clear hq
 go_enter Tryz.func91,Tryz.ntmps91
 go_wp2_with (first|(go_at_call 156;refine T.out.mono ?_;rintro e w1 ⟨rfl,p1⟩;obtain⟨ρ1,V1,k1,f1⟩:=p1;have K1:=hide k1;have F1:=hide f1;clear k1 f1)|(go_at_call 158;refine (P.out _ _ _ K1.out).mono ?_;rintro e w2 ⟨rfl,p2⟩;obtain⟨ρ2,V2,k2,f2⟩:=p2;have K2:=hide k2;have F2:=hide (F1.out.trans f2);clear k2 f2))
 go_end0
 exact⟨rfl,_,_,K2.out,F2.out⟩
set_option maxRecDepth 20000 in
set_option maxHeartbeats 2000000 in
theorem mless_any (l:List Int) (a b:Int) (hs:s.stack=l++[a,b]) (k:Int) (w:World) (h:MsAt w mb ρ C V s) (hn:l.length+2≤1000000000000) :
  Calls Tryz.prog 92 #[.pointer (some ⟨mb,0,none⟩),.int .i64 k] w fun e w'=>e=.returned (.tuple #[])∧MsPost mb C ρ V w (s.pop.pop.put (if a<b then 1 else 0)) w':=by
 have T:=hide (mtakeTwo_any l a b hs w h (by omega))
 have hl:s.pop.pop.stack.length+1≤1000000000000:=by unfold MS.pop;rw [hs];simp;omega
 have ei:(if a<b then (1:Int) else 0)=if decide (a<b)=true then 1 else 0:=by simp
 rw [ei]
 clear h hs ei
 generalize s.pop.pop=s2 at *
 generalize hq:decide (a<b)=t
 have P:Hid (∀ w ρ V,MsAt w mb ρ C V s2->Calls Tryz.prog 158 #[.pointer (some ⟨mb,0,none⟩),.bool (decide (a<b))] w fun e w'=>e=.returned (.tuple #[])∧MsPost mb C ρ V w (s2.put (if t=true then 1 else 0)) w'):=hide (fun w ρ V h=>by rw [hq];exact mputTruth_any t w h hl)
 generalize s2.put (if t=true then 1 else 0)=s3 at *
 clear hq
 go_enter Tryz.func92,Tryz.ntmps92
 go_wp2_with (first|(go_at_call 156;refine T.out.mono ?_;rintro e w1 ⟨rfl,p1⟩;obtain⟨ρ1,V1,k1,f1⟩:=p1;have K1:=hide k1;have F1:=hide f1;clear k1 f1)|(go_at_call 158;refine (P.out _ _ _ K1.out).mono ?_;rintro e w2 ⟨rfl,p2⟩;obtain⟨ρ2,V2,k2,f2⟩:=p2;have K2:=hide k2;have F2:=hide (F1.out.trans f2);clear k2 f2))
 go_end0
 exact⟨rfl,_,_,K2.out,F2.out⟩
set_option maxRecDepth 20000 in
set_option maxHeartbeats 2000000 in
theorem mmore_any (l:List Int) (a b:Int) (hs:s.stack=l++[a,b]) (k:Int) (w:World) (h:MsAt w mb ρ C V s) (hn:l.length+2≤1000000000000) :
  Calls Tryz.prog 93 #[.pointer (some ⟨mb,0,none⟩),.int .i64 k] w fun e w'=>e=.returned (.tuple #[])∧MsPost mb C ρ V w (s.pop.pop.put (if a > b then 1 else 0)) w':=by
 have T:=hide (mtakeTwo_any l a b hs w h (by omega))
 have hl:s.pop.pop.stack.length+1≤1000000000000:=by unfold MS.pop;rw [hs];simp;omega
 have ei:(if a > b then (1:Int) else 0)=if decide (b<a)=true then 1 else 0:=by simp
 rw [ei]
 clear h hs ei
 generalize s.pop.pop=s2 at *
 generalize hq:decide (b<a)=t
 have P:Hid (∀ w ρ V,MsAt w mb ρ C V s2->Calls Tryz.prog 158 #[.pointer (some ⟨mb,0,none⟩),.bool (decide (b<a))] w fun e w'=>e=.returned (.tuple #[])∧MsPost mb C ρ V w (s2.put (if t=true then 1 else 0)) w'):=hide (fun w ρ V h=>by rw [hq];exact mputTruth_any t w h hl)
 generalize s2.put (if t=true then 1 else 0)=s3 at *
 clear hq
 go_enter Tryz.func93,Tryz.ntmps93
 go_wp2_with (first|(go_at_call 156;refine T.out.mono ?_;rintro e w1 ⟨rfl,p1⟩;obtain⟨ρ1,V1,k1,f1⟩:=p1;have K1:=hide k1;have F1:=hide f1;clear k1 f1)|(go_at_call 158;refine (P.out _ _ _ K1.out).mono ?_;rintro e w2 ⟨rfl,p2⟩;obtain⟨ρ2,V2,k2,f2⟩:=p2;have K2:=hide k2;have F2:=hide (F1.out.trans f2);clear k2 f2))
 go_end0
 exact⟨rfl,_,_,K2.out,F2.out⟩
end
end Go.Proofs.YtnhidaamfnjdjaaGreatDoor
namespace Go.Proofs.YtnhidaamfnjdjaaGreatDoor
open Go.RowKit Go.Maps
section
variable {mb : Nat} {ρ : Nat → MR} {C : CM} {V : MV} {s : MS}
theorem mvars_set {w:World} (h:MsAt w mb ρ C V s) {g off cap:Nat} (hv:V.va=.slice (some ⟨g,off,none⟩) s.vars.length cap) (i:Nat) (x:Int) :
  MsAt (w.setCell ⟨g,off+i,none⟩ (intV x)) mb ρ C V { s with vars:=s.vars.set i x }∧MsGo V V ρ ρ w (w.setCell ⟨g,off+i,none⟩ (intV x)):=by
 have q:=h.vars (fun x=>x)
 have hg:ρ g=.vars:=q.2 g (by rw [hv];rfl)
 have f:MsFr (fun r=>r=.vars) ρ ρ w (w.setCell ⟨g,off+i,none⟩ (intV x)):=⟨rfl,rfl,rfl,by simp,fun k _ hA=>⟨Below.heap_setCell _ _ _ _ (fun e=>hA (by have:k=g:=e;rw [this];exact hg)),rfl⟩⟩
 have k:=MsIf.keep h f h.rb.1
 refine⟨⟨fun _=>k.blk (by simp),k.rb,fun _=>k.code (by simp),fun _=>k.brs (by simp),fun _=>⟨?_,q.2⟩,fun _=>k.chans (by simp),fun _=>k.stack (by simp),fun _=>k.urg (by simp),fun _=>k.oth (by simp),fun _=>k.slp (by simp),fun _=>k.out (by simp),fun i p hp _=>k.proc i p hp (by simp),fun i p hp _=>k.opn i p hp (by simp),fun c x hx _=>k.num c x hx (by simp),k.lens⟩,f.weak (fun r hr e=>by rw [hr] at e;cases e),List.prefix_rfl⟩
 have q1:=q.1
 have e:V.va=.slice (some ⟨g,off,none⟩) (s.vars.map intV).length cap:=by rw [List.length_map];exact hv
 rw [e] at q1 ⊢
 have q2:=q1.set i (intV x)
 rw [List.map_set]
 exact q2
set_option maxRecDepth 20000 in
set_option maxHeartbeats 2000000 in
theorem mvariable_any (i:Nat) (hi:i<s.vars.length) (hf:s.vars.length≤1000000000000) (w:World) (h:MsAt w mb ρ C V s) (hn:s.stack.length+1≤1000000000000) :
  Calls Tryz.prog 85 #[.pointer (some ⟨mb,0,none⟩),.int .i64 i] w fun e w'=>e=.returned (.tuple #[])∧MsPost mb C ρ V w (s.put (s.vars.getD i 0)) w':=by
 have c2:w.cell? ⟨mb,2,none⟩=some V.va:=cell_at (h.blk (fun x=>x)) 2
 have q:=h.vars (fun x=>x)
 have hl:(s.vars.map intV).length=s.vars.length:=List.length_map ..
 obtain⟨g,off,cap,hv,h1,h2,hcell,hfz,hlt⟩:=q.1.shape (by omega)
 have hx:w.cell? ⟨g,off+i,none⟩=some (.int .i64 (s.vars.getD i 0)):=hcell i _ (by rw [List.getElem?_map,getD_lt _ _ _ hi,List.getElem?_eq_getElem hi];rfl)
 have P:=hide (mput_any (s.vars.getD i 0) w h hn)
 rw [hv,hl] at c2
 rw [hl] at h1
 clear h q hcell hv hl
 generalize s.put (s.vars.getD i 0)=s2 at *
 generalize s.vars.getD i 0=x at *
 generalize s.vars.length=nv at *
 go_enter Tryz.func85,Tryz.ntmps85
 go_wp2_with (go_at_call 84;refine P.out.mono ?_;rintro e w2 ⟨rfl,p2⟩;have P2:=hide p2;clear p2)
 go_end0
 exact⟨rfl,P2.out⟩
set_option maxRecDepth 20000 in
set_option maxHeartbeats 2000000 in
theorem mzero_any (i:Nat) (hi:i<s.vars.length) (hf:s.vars.length≤1000000000000) (w:World) (h:MsAt w mb ρ C V s) :
  Calls Tryz.prog 94 #[.pointer (some ⟨mb,0,none⟩),.int .i64 i] w fun e w'=>e=.returned (.tuple #[])∧MsPost mb C ρ V w { s with vars:=s.vars.set i 0 } w':=by
 have c2:w.cell? ⟨mb,2,none⟩=some V.va:=cell_at (h.blk (fun x=>x)) 2
 have q:=h.vars (fun x=>x)
 have hl:(s.vars.map intV).length=s.vars.length:=List.length_map ..
 obtain⟨g,off,cap,hv,h1,h2,hcell,hfz,hlt⟩:=q.1.shape (by omega)
 have hx:w.cell? ⟨g,off+i,none⟩=some (.int .i64 (s.vars.getD i 0)):=hcell i _ (by rw [List.getElem?_map,getD_lt _ _ _ hi,List.getElem?_eq_getElem hi];rfl)
 rw [hl] at hv h1
 have Fin:=hide (mvars_set h hv i 0)
 rw [hv] at c2
 clear h q hcell hv hl
 generalize hs2:({ s with vars:=s.vars.set i 0 }:MS)=s2 at *
 clear hs2
 generalize s.vars.getD i 0=x at *
 generalize s.vars.length=nv at *
 go_enter Tryz.func94,Tryz.ntmps94
 go_wp2_with fail
 go_end0
 exact⟨rfl,_,_,Fin.out.1,Fin.out.2⟩
set_option maxRecDepth 20000 in
set_option maxHeartbeats 2000000 in
theorem mstore_any (l:List Int) (n:Int) (hs:s.stack=l++[n]) (i:Nat) (hi:i<s.vars.length) (hf:s.vars.length≤1000000000000) (w:World) (h:MsAt w mb ρ C V s) (hn:l.length≤1000000000000) :
  Calls Tryz.prog 95 #[.pointer (some ⟨mb,0,none⟩),.int .i64 i] w fun e w'=>e=.returned (.tuple #[])∧MsPost mb C ρ V w { s.pop with vars:=s.pop.vars.set i n } w':=by
 have T:=hide (fun w (h:MsAt w mb ρ C V s)=>mtake_st l n hs w h hn)
 have hi1:i<s.pop.vars.length:=hi
 have hf1:s.pop.vars.length≤1000000000000:=hf
 have c2:w.cell? ⟨mb,2,none⟩=some V.va:=cell_at (h.blk (fun x=>x)) 2
 have q:=h.vars (fun x=>x)
 have hl:(s.vars.map intV).length=s.vars.length:=List.length_map ..
 obtain⟨g,off,cap,hv,h1,h2,hcell,hfz,hlt⟩:=q.1.shape (by omega)
 rw [hl] at hv h1
 have more:∀ (w1:World) (v1:Value),MsAt w1 mb ρ C { V with st:=v1 } s.pop->w1.cell? ⟨mb,2,none⟩=some (.slice (some ⟨g,off,none⟩) s.vars.length cap)∧w1.cell? ⟨g,off+i,none⟩=some (.int .i64 (s.pop.vars.getD i 0))∧(∀ k,w1.frozen? ⟨g,k,none⟩=false)∧MsAt (w1.setCell ⟨g,off+i,none⟩ (.int .i64 n)) mb ρ C { V with st:=v1 } { s.pop with vars:=s.pop.vars.set i n }∧MsGo { V with st:=v1 } { V with st:=v1 } ρ ρ w1 (w1.setCell ⟨g,off+i,none⟩ (.int .i64 n)):=by
  intro w1 v1 k1
  have d2:w1.cell? ⟨mb,2,none⟩=some V.va:=cell_at (k1.blk (fun x=>x)) 2
  have q1:=k1.vars (fun x=>x)
  obtain⟨g',off',cap',hv',_,_,hcell',hfz',_⟩:=q1.1.shape (by simp;omega)
  have hv2:V.va=.slice (some ⟨g',off',none⟩) (s.pop.vars.map intV).length cap':=hv'
  rw [hv] at hv2
  simp only [Value.slice.injEq,Option.some.injEq,Addr.mk.injEq,and_true] at hv2
  obtain⟨⟨rfl,rfl⟩,_,rfl⟩:=hv2
  refine⟨by rw [d2,hv],hcell' i _ (by rw [List.getElem?_map,getD_lt _ _ _ hi1,List.getElem?_eq_getElem hi1];rfl),hfz',?_⟩
  exact mvars_set (V:={ V with st:=v1 }) (s:=s.pop) k1 hv i n
 have More:=hide more
 have H:=hide h
 rw [hv] at c2
 clear h hs q hcell hv hl more
 generalize hs2:({ s.pop with vars:=s.pop.vars.set i n }:MS)=s2 at *
 generalize s.pop.vars.getD i 0=x at *
 have hi2:i<s.vars.length:=hi1
 have hf2:s.vars.length≤1000000000000:=hf1
 clear hs2 hi1 hf1
 generalize s.pop=s1 at *
 generalize s.vars.length=nv at *
 go_enter Tryz.func95,Tryz.ntmps95
 go_wp2_with fail
 go_region_with (go_at_call 159;refine Calls.mono (T.out _ (by exact H.out.drew)) ?_;rintro e w1 ⟨rfl,v1,k1,f1⟩;obtain⟨d2,dx,dz,kk,ff⟩:=More.out _ _ k1;have KK:=hide kk;have FF:=hide ((MsGo.refl V ρ w).drew.trans (f1.trans ff));clear k1 f1 kk ff)
 all_goals
  go_wp2_with fail
  go_end0
  exact⟨rfl,_,_,KK.out,FF.out⟩
end
end Go.Proofs.YtnhidaamfnjdjaaGreatDoor
namespace Go.Proofs.YtnhidaamfnjdjaaGreatDoor
open Go.RowKit Go.Maps
section
variable {mb : Nat} {ρ : Nat → MR} {C : CM} {V : MV} {s : MS}
theorem mproc_set {w:World} (h:MsAt w mb ρ C V s) {p:Nat} {x x':PPr} (hp:s.procs[p]?=some x) (k:Nat) (v:Value) (hc:(V.proc mb p x).setIfInBounds k v=V.proc mb p x') (ho:x'.opn=x.opn) :
  MsAt (w.setCell ⟨V.pb.getD p 0,k,none⟩ v) mb ρ C V (s.setPr p x')∧MsGo V V ρ ρ w (w.setCell ⟨V.pb.getD p 0,k,none⟩ v):=by
 have q:=h.proc p x hp (fun x=>x)
 have f:MsFr (fun r=>r=.proc p) ρ ρ w (w.setCell ⟨V.pb.getD p 0,k,none⟩ v):=⟨rfl,rfl,rfl,by simp,fun g _ hA=>⟨Below.heap_setCell _ _ _ _ (fun e=>hA (by have:g=V.pb.getD p 0:=e;rw [this];exact q.2)),rfl⟩⟩
 have kp:=MsIf.keep h f h.rb.1
 have hlt:p<s.procs.length:=(List.getElem?_eq_some_iff.1 hp).1
 have get:∀ i y,(s.setPr p x').procs[i]?=some y->(i=p∧y=x')∨(i≠p∧s.procs[i]?=some y):=by
  intro i y hy
  have hy:(s.procs.set p x')[i]?=some y:=hy
  by_cases hip:p=i
  ·subst hip
   rw [List.getElem?_set_self hlt] at hy
   exact .inl ⟨rfl,(Option.some.inj hy).symm⟩
  ·rw [List.getElem?_set_ne hip] at hy
   exact .inr ⟨fun e=>hip e.symm,hy⟩
 refine⟨⟨fun _=>kp.blk (by simp),kp.rb,fun _=>kp.code (by simp),fun _=>kp.brs (by simp),fun _=>kp.vars (by simp),fun _=>kp.chans (by simp),fun _=>kp.stack (by simp),fun _=>kp.urg (by simp),fun _=>kp.oth (by simp),fun _=>kp.slp (by simp),fun _=>kp.out (by simp),fun i y hy _=>?_,fun i y hy _=>?_,fun c z hz _=>kp.num c z hz (by simp),by
  have:=kp.lens
  simpa [MS.setPr] using this⟩,f.weak (fun r hr e=>by rw [hr] at e;cases e),List.prefix_rfl⟩
 ·rcases get i y hy with ⟨rfl,rfl⟩|⟨hne,hy⟩
  ·exact⟨by rw [at_setCell q.1 k v,hc],q.2⟩
  ·exact kp.proc i y hy (by simpa using hne)
 ·rcases get i y hy with ⟨rfl,rfl⟩|⟨hne,hy⟩
  ·have:=kp.opn i x hp (by simp)
   rw [ho]
   exact this
  ·exact kp.opn i y hy (by simp)
theorem pr_get {p:Nat} {x:PPr} (hp:s.procs[p]?=some x):s.pr p=x:=by
 unfold MS.pr
 rw [List.getD,hp]
 rfl
set_option maxHeartbeats 1000000 in
theorem mjump_any {p:Nat} {x:PPr} (hc:s.cur=some p) (hp:s.procs[p]?=some x) (a:Int) (w:World) (h:MsAt w mb ρ C V s) :
  Calls Tryz.prog 102 #[.pointer (some ⟨mb,0,none⟩),.int .i64 a] w fun e w'=>e=.returned (.tuple #[])∧MsAt w' mb ρ C V (s.jump p a)∧MsGo V V ρ ρ w w':=by
 have c5:w.cell? ⟨mb,5,none⟩=some (V.ptrO s.cur):=cell_at (h.blk (fun x=>x)) 5
 have q:=h.proc p x hp (fun x=>x)
 have d3:w.cell? ⟨V.pb.getD p 0,3,none⟩=some (.int .i64 x.at_):=cell_at q.1 3
 have z3:∀ i,w.frozen? ⟨V.pb.getD p 0,i,none⟩=false:=fun i=>frozen_at q.1 i
 have fin:=mproc_set h hp 3 (.int .i64 a) (x':={ x with at_:=a }) rfl rfl
 have e:s.jump p a=s.setPr p { x with at_:=a }:=by unfold MS.jump;rw [pr_get hp]
 rw [<-e] at fin
 have Fin:=hide fin
 rw [hc] at c5
 unfold MV.ptrO at c5
 simp only [Option.map_some] at c5
 clear h q fin hc hp e
 generalize V.pb.getD p 0=pb at *
 go_enter Tryz.func102,Tryz.ntmps102
 go_wp2_with fail
 go_end0
 exact⟨rfl,Fin.out.1,Fin.out.2⟩
theorem mstep_any (a:Int) (w:World) (h:MsAt w mb ρ C V s) :
  Calls Tryz.prog 83 #[.pointer (some ⟨mb,0,none⟩),.int .i64 a] w fun e w'=>e=.returned (.tuple #[])∧MsPost mb C ρ V w s w':=by
 have H:=hide h
 clear h
 go_enter Tryz.func83,Tryz.ntmps83
 go_wp2_with fail
 go_end0
 exact⟨rfl,_,_,H.out,MsGo.refl _ _ _⟩
theorem mhold_any (a:Int) (w:World) (h:MsAt w mb ρ C V s) :
  Calls Tryz.prog 103 #[.pointer (some ⟨mb,0,none⟩),.int .i64 a] w fun e w'=>e=.returned (.tuple #[])∧MsPost mb C ρ V w s.leave w':=by
 have L:=hide (mleave_any w h)
 clear h
 go_enter Tryz.func103,Tryz.ntmps103
 go_wp2_with (go_at_call 167;refine L.out.mono ?_;rintro e w2 ⟨rfl,k2,f2⟩;have K2:=hide k2;have F2:=hide f2;clear k2 f2)
 go_end0
 exact⟨rfl,_,_,K2.out,F2.out⟩
set_option maxHeartbeats 1000000 in
theorem munless_any {p:Nat} {x:PPr} (hc:s.cur=some p) (hp:s.procs[p]?=some x) (l:List Int) (n:Int) (hs:s.stack=l++[n]) (a:Int) (w:World) (h:MsAt w mb ρ C V s) (hn:l.length≤1000000000000) :
  Calls Tryz.prog 101 #[.pointer (some ⟨mb,0,none⟩),.int .i64 a] w fun e w'=>e=.returned (.tuple #[])∧MsPost mb C ρ V w (if n=0 then s.pop.jump p a else s.pop) w':=by
 have T:=hide (mtake_st l n hs w h hn)
 have J:=hide (fun w V (h:MsAt w mb ρ C V s.pop)=>mjump_any (s:=s.pop) hc hp a w h)
 clear h hs hc hp
 by_cases h0:n=0
 ·rw [if_pos h0]
  have e0:(n == 0)=true:=by simpa using h0
  clear h0
  generalize s.pop.jump p a=s2 at *
  go_enter Tryz.func101,Tryz.ntmps101
  go_wp2_with (first|(go_at_call 159;refine T.out.mono ?_;rintro e w1 ⟨rfl,v1,k1,f1⟩;have K1:=hide k1;have F1:=hide f1;clear k1 f1)|(go_at_call 102;refine (J.out _ _ K1.out).mono ?_;rintro e w2 ⟨rfl,k2,f2⟩;have K2:=hide k2;have F2:=hide (F1.out.trans f2);clear k2 f2))
  go_end0
  exact⟨rfl,_,_,K2.out,F2.out⟩
 ·rw [if_neg h0]
  have e0:(n == 0)=false:=by simpa using h0
  clear h0
  go_enter Tryz.func101,Tryz.ntmps101
  go_wp2_with (go_at_call 159;refine T.out.mono ?_;rintro e w1 ⟨rfl,v1,k1,f1⟩;have K1:=hide k1;have F1:=hide f1;clear k1 f1)
  go_end0
  exact⟨rfl,_,_,K1.out,F1.out⟩
set_option maxRecDepth 20000 in
set_option maxHeartbeats 2000000 in
theorem mdivide_any (l:List Int) (a b:Int) (hs:s.stack=l++[a,b]) (k:Int) (w:World) (h:MsAt w mb ρ C V s) (hn:l.length+2≤1000000000000) :
  Calls Tryz.prog 89 #[.pointer (some ⟨mb,0,none⟩),.int .i64 k] w fun e w'=>e=.returned (.tuple #[])∧MsPost mb C ρ V w (if b=0 then s.pop.pop.fault else s.pop.pop.put (w64 (a.tdiv b))) w':=by
 have T:=hide (mtakeTwo_any l a b hs w h (by omega))
 have hl:s.pop.pop.stack.length+1≤1000000000000:=by unfold MS.pop;rw [hs];simp;omega
 clear h hs
 generalize s.pop.pop=s2 at *
 by_cases h0:b=0
 ·rw [if_pos h0]
  have e0:(b == 0)=true:=by simpa using h0
  clear h0
  go_enter Tryz.func89,Tryz.ntmps89
  go_wp2_with (first|(go_at_call 156;refine T.out.mono ?_;rintro e w1 ⟨rfl,p1⟩;obtain⟨ρ1,V1,k1,f1⟩:=p1;have K1:=hide k1;have F1:=hide f1;clear k1 f1)|(go_at_call 157;refine (mfault_any _ K1.out).mono ?_;rintro e w2 ⟨rfl,p2⟩;obtain⟨ρ2,V2,k2,f2⟩:=p2;have K2:=hide k2;have F2:=hide (F1.out.trans f2);clear k2 f2))
  try simp only [Exit.inBlock,Exit.then]
  refine bodyPost_ret (results_none rfl _ _ _) rfl ?_
  exact⟨rfl,_,_,K2.out,F2.out⟩
 ·rw [if_neg h0]
  have e0:(b == 0)=false:=by simpa using h0
  unfold w64
  go_enter Tryz.func89,Tryz.ntmps89
  go_wp2_with (first|(go_at_call 156;refine T.out.mono ?_;rintro e w1 ⟨rfl,p1⟩;obtain⟨ρ1,V1,k1,f1⟩:=p1;have K1:=hide k1;have F1:=hide f1;clear k1 f1)|(go_at_call 84;refine (mput_any (wrap64 (a.tdiv b)) _ K1.out hl).mono ?_;rintro e w2 ⟨rfl,p2⟩;obtain⟨ρ2,V2,k2,f2⟩:=p2;have K2:=hide k2;have F2:=hide (F1.out.trans f2);clear k2 f2))
  go_end0
  exact⟨rfl,_,_,K2.out,F2.out⟩
set_option maxRecDepth 20000 in
set_option maxHeartbeats 2000000 in
theorem mremainder_any (l:List Int) (a b:Int) (hs:s.stack=l++[a,b]) (k:Int) (w:World) (h:MsAt w mb ρ C V s) (hn:l.length+2≤1000000000000) :
  Calls Tryz.prog 90 #[.pointer (some ⟨mb,0,none⟩),.int .i64 k] w fun e w'=>e=.returned (.tuple #[])∧MsPost mb C ρ V w (if b=0 then s.pop.pop.fault else s.pop.pop.put (a.tmod b)) w':=by
 have T:=hide (mtakeTwo_any l a b hs w h (by omega))
 have hl:s.pop.pop.stack.length+1≤1000000000000:=by unfold MS.pop;rw [hs];simp;omega
 clear h hs
 generalize s.pop.pop=s2 at *
 by_cases h0:b=0
 ·rw [if_pos h0]
  have e0:(b == 0)=true:=by simpa using h0
  clear h0
  go_enter Tryz.func90,Tryz.ntmps90
  go_wp2_with (first|(go_at_call 156;refine T.out.mono ?_;rintro e w1 ⟨rfl,p1⟩;obtain⟨ρ1,V1,k1,f1⟩:=p1;have K1:=hide k1;have F1:=hide f1;clear k1 f1)|(go_at_call 157;refine (mfault_any _ K1.out).mono ?_;rintro e w2 ⟨rfl,p2⟩;obtain⟨ρ2,V2,k2,f2⟩:=p2;have K2:=hide k2;have F2:=hide (F1.out.trans f2);clear k2 f2))
  try simp only [Exit.inBlock,Exit.then]
  refine bodyPost_ret (results_none rfl _ _ _) rfl ?_
  exact⟨rfl,_,_,K2.out,F2.out⟩
 ·rw [if_neg h0]
  have e0:(b == 0)=false:=by simpa using h0
  go_enter Tryz.func90,Tryz.ntmps90
  go_wp2_with (first|(go_at_call 156;refine T.out.mono ?_;rintro e w1 ⟨rfl,p1⟩;obtain⟨ρ1,V1,k1,f1⟩:=p1;have K1:=hide k1;have F1:=hide f1;clear k1 f1)|(go_at_call 84;refine (mput_any (a.tmod b) _ K1.out hl).mono ?_;rintro e w2 ⟨rfl,p2⟩;obtain⟨ρ2,V2,k2,f2⟩:=p2;have K2:=hide k2;have F2:=hide (F1.out.trans f2);clear k2 f2))
  go_end0
  exact⟨rfl,_,_,K2.out,F2.out⟩
end
end Go.Proofs.YtnhidaamfnjdjaaGreatDoor
namespace Go.Proofs.YtnhidaamfnjdjaaGreatDoor
open Go.RowKit Go.Maps
section
variable {mb : Nat} {ρ : Nat → MR} {C : CM} {V : MV} {s : MS}
theorem mout_final {w w4:World} {O:Obj} {v':Value} {n:Int} (h:MsAt w mb ρ C V s) (g4:(w.alloc O).grownBy w4 V.wr.ownBlock) (q4:QAt w4 3 v' (s.out.map intV++[intV n])) (b4:v'.ownBlock=V.wr.ownBlock∨∃ g,v'.ownBlock=some g∧(w.alloc O).heap.size≤g) :
  MsPost mb C ρ V w { s with out:=s.out++[n] } (w4.setCell ⟨mb,11,none⟩ v'):=by
 have hst:=h.out (fun x=>x)
 have fr:=fr_app (k:=11) (v':=v') h.rb.1 hst.2 g4
 have kp:=MsIf.keep h fr (by rw [newR_old h.rb.2];exact h.rb.1)
 have nm:v'.ownBlock≠some mb:=by
  rcases b4 with e|⟨g,e,hg⟩
  ·rw [e];intro x;have:=hst.2 mb x;rw [h.rb.1] at this;cases this
  ·have hsz:(w.alloc O).heap.size=w.heap.size+1:=by simp
   have:=h.rb.2
   rw [e];intro x;injection x with x;omega
 have hbm:w4.heap[mb]?=some (.cells (V.mach s) 102):=by
  have hsz:(w.alloc O).heap.size=w.heap.size+1:=by simp
  have hlt:=h.rb.2
  rw [g4.block mb (by omega) (fun e=>by have:=hst.2 mb e.symm;rw [h.rb.1] at this;cases this),Below.heap_alloc _ _ _ hlt]
  exact h.blk (fun x=>x)
 have out:∀ r,r≠.mach->r≠.out->¬ Two .out r:=fun r h1 h2 x=>x.elim h1 h2
 refine⟨_,{ V with wr:=v' },⟨fun _=>?_,kp.rb,fun _=>kp.code (out _ (by simp) (by simp)),fun _=>kp.brs (out _ (by simp) (by simp)),fun _=>kp.vars (out _ (by simp) (by simp)),fun _=>kp.chans (out _ (by simp) (by simp)),fun _=>kp.stack (out _ (by simp) (by simp)),fun _=>kp.urg (out _ (by simp) (by simp)),fun _=>kp.oth (out _ (by simp) (by simp)),fun _=>kp.slp (out _ (by simp) (by simp)),fun _=>⟨?_,ro_app hst.2 (fun g hg=>hst.1.lt hg) b4 (rfl:w4=w4)⟩,fun i p hp _=>kp.proc i p hp (out _ (by simp) (by simp)),fun i p hp _=>kp.opn i p hp (out _ (by simp) (by simp)),fun c x hx _=>kp.num c x hx (out _ (by simp) (by simp)),kp.lens⟩,fr.weak (junk_of (by simp)),List.prefix_rfl⟩
 ·exact at_setCell hbm 11 v'
 ·have e:(s.out++[n]).map intV=s.out.map intV++[intV n]:=by simp
  rw [e]
  exact q4.frame (fun g hg=>Below.heap_setCell _ _ _ _ (fun x=>nm (by rw [hg];exact congrArg some x)))
set_option maxRecDepth 20000 in
set_option maxHeartbeats 4000000 in
theorem mwriteOut_any (l:List Int) (n:Int) (hs:s.stack=l++[n]) (k:Int) (w:World) (h:MsAt w mb ρ C V s) (hn:l.length≤1000000000000) (ho:s.out.length+1≤1000000000000) :
  Calls Tryz.prog 96 #[.pointer (some ⟨mb,0,none⟩),.int .i64 k] w fun e w'=>e=.returned (.tuple #[])∧MsPost mb C ρ V w { s.pop with out:=s.pop.out++[n] } w':=by
 have T:=hide (fun w (h:MsAt w mb ρ C V s)=>mtake_st l n hs w h hn)
 have c11:w.cell? ⟨mb,11,none⟩=some V.wr:=cell_at (h.blk (fun x=>x)) 11
 obtain⟨va,cc,hv⟩:=(h.out (fun x=>x)).1.len
 rw [List.length_map] at hv
 have hol:s.pop.out.length+1≤1000000000000:=ho
 have more:∀ (w1:World) (v1:Value),MsAt w1 mb ρ C { V with st:=v1 } s.pop->w1.cell? ⟨mb,11,none⟩=some (.slice va s.out.length cc)∧(w1.alloc (.cells #[.int .i64 n] 3)).cell? ⟨mb,11,none⟩=some (.slice va s.out.length cc)∧QAt (w1.alloc (.cells #[.int .i64 n] 3)) 3 (.slice va s.out.length cc) (s.pop.out.map intV) ∧
   (∀ (w4:World),(w1.alloc (.cells #[.int .i64 n] 3)).grownBy w4 (Value.slice va s.out.length cc).ownBlock->w4.cell? ⟨mb,11,none⟩=some (.slice va s.out.length cc)∧∀ k,w4.frozen? ⟨mb,k,none⟩=false) ∧
   ∀ (v':Value) (w4:World),QAt w4 3 v' (s.pop.out.map intV++[.int .i64 n])->(w1.alloc (.cells #[.int .i64 n] 3)).grownBy w4 (Value.slice va s.out.length cc).ownBlock->(v'.ownBlock=(Value.slice va s.out.length cc).ownBlock∨∃ g,v'.ownBlock=some g∧(w1.alloc (.cells #[.int .i64 n] 3)).heap.size≤g)->MsPost mb C ρ { V with st:=v1 } w1 { s.pop with out:=s.pop.out++[n] } (w4.setCell ⟨mb,11,none⟩ v'):=by
  intro w1 v1 k1
  have q:=k1.out (fun x=>x)
  have hbm:=k1.blk (fun x=>x)
  have e:({ V with st:=v1 }:MV).wr=.slice va s.out.length cc:=hv
  rw [e] at q
  have law:∀ (w4:World),(w1.alloc (.cells #[.int .i64 n] 3)).grownBy w4 (Value.slice va s.out.length cc).ownBlock->w4.heap[mb]?=some (.cells (({ V with st:=v1 }:MV).mach s.pop) 102):=by
   intro w4 g4
   have hsz:(w1.alloc (.cells #[.int .i64 n] 3)).heap.size=w1.heap.size+1:=by simp
   have hlt:=k1.rb.2
   rw [g4.block mb (by omega) (fun e=>by have:=q.2 mb e.symm;rw [k1.rb.1] at this;cases this),Below.heap_alloc _ _ _ hlt]
   exact hbm
  refine⟨by rw [<-e];exact cell_at hbm 11,by rw [<-e];exact cell_at (at_alloc hbm _) 11,q.1.frame (fun g hg=>Below.heap_alloc _ _ _ (q.1.lt hg)),fun w4 g4=>⟨by rw [<-e];exact cell_at (law w4 g4) 11,fun k=>frozen_at (law w4 g4) k⟩,fun v' w4 q4 g4 b4=>?_⟩
  exact mout_final (V:={ V with st:=v1 }) (s:=s.pop) k1 (by rw [e];exact g4) q4 (by rw [e];exact b4)
 have More:=hide more;have H:=hide h
 rw [hv] at c11
 have hpl:(s.pop.out.map intV).length=s.out.length:=List.length_map ..
 have Hpl:=hide hpl
 clear h hs hv more hpl
 generalize hs2:({ s.pop with out:=s.pop.out++[n] }:MS)=s2 at *
 clear hs2
 go_enter Tryz.func96,Tryz.ntmps96
 go_wp2_with fail
 go_region_law (first
  | (refine step_appendQ Tryz.underlying36 intInfo' rfl (by decide) rfl _ _ rfl (.slice va s.out.length cc) (s.pop.out.map intV) (by simp [Act.eval]) Qa.out ⟨w1.heap.size,0,none⟩ 1 (.int .i64 n) (by simp [Act.eval]) (by exact cell_at (at_new w1 _) 0) rfl (by rw [List.length_map];exact hol) ?_;intro v' w4 q4 g4 b4;obtain⟨va',vc',hv'⟩:=q4.len;subst hv';obtain⟨y4,z4⟩:=Law.out _ g4;have R:=hide (Fn.out _ _ q4 g4 b4);clear q4 g4 b4)
  | (go_simp;refine Calls.mono (T.out _ (by exact H.out.drew)) ?_;rintro e w1 ⟨rfl,v1,k1,f1⟩;obtain⟨d11,d12,qa,law,fin⟩:=More.out _ _ k1;have Qa:=hide qa;have Law:=hide law;have Fn:=hide fin;have F1:=hide ((MsGo.refl V ρ w).drew.trans f1);clear k1 f1 qa law fin;dsimp only))
 all_goals
  go_wp2_with fail
  go_end0
  obtain⟨ρ2,V2,k2,f2⟩:=R.out
  rw [List.length_append,Hpl.out] at k2 f2
  exact⟨rfl,ρ2,V2,k2,F1.out.trans f2⟩
end
end Go.Proofs.YtnhidaamfnjdjaaGreatDoor
