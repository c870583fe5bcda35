import Derived.Test.YtnhidaamfnjdjaaGreatDoorZMakE
namespace Go.Proofs.YtnhidaamfnjdjaaGreatDoor
open Go.RowKit Go.Maps
section
variable {T : List PNode} {ms : List NM} {lo b f i : Nat}
def BrIn (p:CM×List Nat):Prop:=∀ x∈p.2,x<p.1.br.length
theorem onM_in (p:CM×List Nat) (k:Nat) (hk:(T.getD k default).expr=.nil∨fullE (T.getD k default).expr=true) (h:BrIn p):BrIn (onM T p k):=by
 intro x hx
 have hl:=branchM_len hk p.1
 have hx:x∈p.2++[p.1.br.length]:=hx
 show x<(branchM (T.getD k default) p.1).br.length
 simp only [List.mem_append,List.mem_singleton] at hx
 rcases hx with hx|rfl
 ·have:=h x hx;omega
 ·omega
theorem onM_all:∀ (l:List Nat) (p:CM×List Nat),(∀ k∈l,(T.getD k default).expr=.nil∨fullE (T.getD k default).expr=true)->BrIn p->BrIn (l.foldl (onM T) p)
 | [],_,_,h=>h
 | k :: l,p,hk,h=>onM_all l _ (fun x hx=>hk x (by simp [hx])) (onM_in p k (hk k (by simp)) h)
theorem landsM_in {below:Nat->CM->CM} (hb:∀ i s,Le s (below i s)) (p:CM×List Nat) (k:Nat×Nat) (h:PlIn p):PlIn (landsM below p k):=by
 refine PlIn.snoc h (landsM_le hb p k) ?_
 show _<((_:CM).add _ _).code.length
 simp [CM.add]
theorem branchM_sz {n:PNode} (h:n.expr=.nil∨fullE n.expr=true) (s:CM):s.code.length+sizeE n.expr+1≤(branchM n s).code.length:=by
 rcases h with h|h
 ·rw [branchM_nil h,h]
  simp [CM.add,sizeE]
 ·rw [branchM_full h]
  have hl:=exprM_len n.expr { s with br:=s.br++[(n.cd,n.nd,0)] }
  simp only [CM.add,CM.aim,List.length_set,List.length_append,List.length_singleton,hl.1]
  omega
theorem LvAt.past {z:Nat} {w1 w4:World} {b:Nat} {vc vb lv:Value} {l:List Nat} {O:Obj} {r:Option Nat} (h:LvAt z w1 b vc vb lv l) (g4:(w1.alloc O).grownBy w4 r) (hr:∀ g,lv.ownBlock=some g->r≠some g):LvAt z w4 b vc vb lv l:=by
 have hsz:(w1.alloc O).heap.size=w1.heap.size+1:=by simp
 have hs:=g4.size
 refine⟨ownsRow_frame h.own (fun g hg=>?_),fun g hg=>⟨(h.new g hg).1,?_⟩⟩
 ·have hl:=own_lt h.own hg
  rw [g4.block g (by omega) (fun e=>hr g hg e.symm)]
  exact Below.heap_alloc _ _ _ hl
 ·have k:=(h.new g hg).2
  exact⟨by have:=k.lt;omega,k.nb,k.nc,k.nr⟩
theorem apart_more {z:Nat} {w1:World} {b:Nat} {vc vb lv v' u:Value} {l:List Nat} {O:Obj} (h:LvAt z w1 b vc vb u l) (hd:∀ g,u.ownBlock=some g->lv.ownBlock≠some g) (b4:v'.ownBlock=lv.ownBlock∨∃ g,v'.ownBlock=some g∧(w1.alloc O).heap.size≤g):∀ g,u.ownBlock=some g->v'.ownBlock≠some g:=by
 intro g hg
 rcases b4 with e|⟨g',e,hge⟩
 ·rw [e];exact hd g hg
 ·rw [e]
  intro x
  injection x with x
  have:=own_lt h.own hg
  have hsz:(w1.alloc O).heap.size=w1.heap.size+1:=by simp
  omega
set_option maxRecDepth 20000 in
set_option maxHeartbeats 8000000 in
theorem calt_any (P:ProcC T ms lo b f) (hkid:KidsOk T i) (hkk:∀ k∈(T.getD i default).kids,KidsOk T k∧((T.getD k default).expr=.nil∨fullE (T.getD k default).expr=true)) (hi:i<T.length) (hf:T.length≤i+1+f)
  (w:World) (s:CM) (vc vb:Value) (p q:CM×List Nat) (hp:p=(T.getD i default).kids.foldl (onM T) (s.add 0 0,[])) (hq:q=((T.getD i default).kids.zip p.2).foldl (landsM (belowF T f)) (p.1.add 16 0,[])) (ht:TrAt w lo T ms) (h:MkAt w lo b s vc vb) (hc:q.1.code.length≤800000) (hb:q.1.br.length≤800000) :
  Calls Tryz.prog 152 #[.pointer (some ⟨b,0,none⟩),ptrTo ms i] w fun e w'=>e=.returned (.tuple #[])∧MkPost lo b vc vb w (q.1.aims q.2) w':=by
 have nd:=ht.nd i hi
 have d7:w.cell? ⟨blkOf ms i,7,none⟩=some (ms.getD i default).sl:=cell_at nd.cells 7
 have hrow:=ht.kids i hi
 have hklt:=ht.klt i hi
 obtain⟨ka,kc,hsl⟩:=ownsRow_len hrow
 have hmono:∀ j,Le (((T.getD i default).kids.take j).foldl (onM T) (s.add 0 0,[])).1 p.1:=fun j=>by rw [hp];exact foldl_take_le (fun p:CM×List Nat=>p.1) _ onM_le _ _ j
 have hstep:=foldl_take_step (onM T) (T.getD i default).kids (s.add 0 0,[])
 have hbin:BrIn p:=by rw [hp];exact onM_all _ _ (fun k hk=>(hkk k hk).2) (fun x hx=>by simp at hx)
 have hcnt:∀ j,j≤(T.getD i default).kids.length->(((T.getD i default).kids.take j).foldl (onM T) (s.add 0 0,[])).2.length≤100000:=fun j hj=>by
  rw [foldl_cnt _ (fun p x=>by simp [onM])]
  have:=hkid.few
  simp
  omega
 have hpl:p.2.length=(T.getD i default).kids.length:=by
  rw [hp,foldl_cnt _ (fun p x=>by simp [onM])]
  simp
 have hmono2:∀ j,Le ((((T.getD i default).kids.zip p.2).take j).foldl (landsM (belowF T f)) (p.1.add 16 0,[])).1 q.1:=fun j=>by rw [hq];exact foldl_take_le (fun p:CM×List Nat=>p.1) _ (landsM_le (fun i s=>belowF_le f i s)) _ _ j
 have hstep2:=foldl_take_step (landsM (belowF T f)) ((T.getD i default).kids.zip p.2) (p.1.add 16 0,[])
 have hin2:∀ j,PlIn ((((T.getD i default).kids.zip p.2).take j).foldl (landsM (belowF T f)) (p.1.add 16 0,[])):=fun j=>foldl_in _ (landsM_in (fun i s=>belowF_le f i s)) _ _ (fun x hx=>by simp at hx)
 have hcnt2:∀ j,j≤(T.getD i default).kids.length->((((T.getD i default).kids.zip p.2).take j).foldl (landsM (belowF T f)) (p.1.add 16 0,[])).2.length≤100000:=fun j hj=>by
  rw [foldl_cnt _ (fun p x=>by simp [landsM])]
  have:=hkid.few
  simp
  omega
 have hup:=hkid.up
 have hfew:=hkid.few
 generalize (T.getD i default).kids=kids at *
 rw [hsl] at d7 hrow hklt
 unfold ptrTo
 have hle0:=(hmono2 0).1
 have hle0b:=(hmono2 0).2
 simp only [List.take_zero,List.foldl_nil] at hle0 hle0b
 have ep:(p.1.add 16 0).code.length=p.1.code.length+1:=by simp [CM.add]
 have L1:s.code.length+1≤1000000:=by
  have h1:=(hmono 0).1
  have h2:(s.add 0 0).code.length=s.code.length+1:=by simp [CM.add]
  simp only [List.take_zero,List.foldl_nil] at h1
  omega
 have L2:p.1.code.length+1≤800000:=by omega
 have L3:p.1.br.length≤800000:=Nat.le_trans hle0b hb
 have H:=hide h;have H0:=hide h;have Ht:=hide ht;have Hrow:=hide hrow;have Hklt:=hide hklt;have Hm:=hide hmono;have Hs:=hide hstep;have Hbin:=hide hbin;have Hcnt:=hide hcnt;have Hp:=hide hp;have PP:=hide P;have Hup:=hide hup;have Hkk:=hide hkk;have Nd:=hide nd
 have Hm2:=hide hmono2;have Hs2:=hide hstep2;have Hin2:=hide hin2;have Hcnt2:=hide hcnt2;have Hq:=hide hq;have Hpl:=hide hpl
 clear h ht hrow hklt hmono hstep hbin hcnt hp P hup hkk hsl nd hkid hmono2 hstep2 hin2 hcnt2 hq hpl hle0 hle0b ep
 generalize hnb:blkOf ms i=nb at *
 clear hnb
 go_enter Tryz.func152,Tryz.ntmps152
 go_wp2_with (go_at_call 82;refine (cadd_any 0 0 _ H0.out L1).mono ?_;rintro e w1 ⟨rfl,p1⟩;obtain⟨vc1,vb1,k1,f1⟩:=p1;have q7:w1.cell? ⟨nb,7,none⟩=some (.slice ka kids.length kc):=(by rw [<-d7];exact (cell_at (Nd.out.low (f1.low H.out)).cells 7).trans (cell_at Nd.out.cells 7).symm);have K1:=hide k1;have F1:=hide f1;clear k1 f1 H0)
 go_loopw [4,6,17] (fun lv _ x wr=>∃ (j:Nat) (vcj vbj:Value),j≤kids.length∧x=.int .i64 j∧MkAt wr lo b ((kids.take j).foldl (onM T) (s.add 0 0,[])).1 vcj vbj∧MkFr b vc vb vcj vbj w wr∧LvAt w.heap.size wr b vcj vbj lv ((kids.take j).foldl (onM T) (s.add 0 0,[])).2) (fun _ _ x _=>kids.length - (intOf x).toNat)
 case atStart=>exact⟨0,_,_,Nat.zero_le _,rfl,K1.out,F1.out,LvAt.nil _ _ _ _ _⟩
 case round =>
  obtain⟨j,vcj,vbj,hj,rfl,k2,f2,l2⟩:=hrel
  have hbl:=f2.low H.out
  obtain⟨la,lc,hlv⟩:=ownsRow_len l2.own
  subst hlv
  by_cases hlt:j<kids.length
  ·have hrow1:wr.ownsRow 0 54 1 (.slice ka kids.length kc) kids.length (kids.map (ptrTo ms)):=ownsRow_frame Hrow.out (fun g hg=>hbl.block g (Hklt.out g hg))
   obtain⟨g,cap,cur,e1,hg,hn,hcc,hsz,hxs⟩:=row_pos hrow1 (by omega)
   have hcell:wr.cell? ⟨g,j,none⟩=some (ptrTo ms kids[j]):=ownsRow_cell (n:=kids.length * 1) hg hxs (by simp [List.getElem?_eq_getElem hlt])
   have hm1:=Hm.out (j+1)
   have hs1:=Hs.out j hlt
   have hkj:=Hup.out kids[j] (List.getElem_mem hlt)
   have hfu:=(Hkk.out kids[j] (List.getElem_mem hlt)).2
   have hcn:=Hcnt.out j hj
   rw [hs1] at hm1
   have nd2:=(Ht.out.low hbl).nd kids[j] hkj.2
   have hsz1:=branchM_sz hfu ((kids.take j).foldl (onM T) (s.add 0 0,[])).1
   have hsz2:=(branchM_len hfu ((kids.take j).foldl (onM T) (s.add 0 0,[])).1).1
   have hm1':Le (branchM (T.getD kids[j] default) ((kids.take j).foldl (onM T) (s.add 0 0,[])).1) p.1:=hm1
   have E:=hide (cbranch_any wr k2 nd2 hfu (by have:=hm1'.1;omega) (by have:=hm1'.2;omega))
   have hs1':(kids.take (j+1)).foldl (onM T) (s.add 0 0,[])=(branchM (T.getD kids[j] default) ((kids.take j).foldl (onM T) (s.add 0 0,[])).1,((kids.take j).foldl (onM T) (s.add 0 0,[])).2++[((kids.take j).foldl (onM T) (s.add 0 0,[])).1.br.length]):=hs1
   have Hs1:=hide hs1';have F2:=hide f2;have L2':=hide l2
   clear hrow1 hg hxs hsz k2 f2 l2 hbl hm1 hm1' hs1 hs1' hkj hfu nd2 hsz1 hsz2
   simp only [Value.slice.injEq,true_and] at e1
   obtain⟨rfl,rfl⟩:=e1
   unfold ptrTo at hcell
   generalize (kids.take j).foldl (onM T) (s.add 0 0,[])=S at *
   generalize branchM (T.getD kids[j] default) S.1=s2 at *
   generalize kids[j]=kid at *
   generalize blkOf ms kid=kb at *
   obtain⟨S1,S2⟩:=S
   simp only at *
   go_wp2_with (first
    | (go_at_call 192;refine E.out.mono ?_;rintro e w8 ⟨rfl,p8⟩;obtain⟨vc8,vb8,k8,f8⟩:=p8;have K8:=hide k8;have F8:=hide (F2.out.trans f8);have V8:=hide (L2'.out.next f8);clear k8 f8)
    | (at_builtin;refine wpList_appendM (by decide) Tryz.underlying36 intInfo' rfl (by decide) rfl _ _ rfl (.slice la S2.length lc) S2.length (natsV S2) rfl (V8.out.own.alloc _) ⟨w8.heap.size,0,none⟩ 1 1 [.int .i64 S1.br.length] rfl rfl (by exact row_new _ _ rfl _ _) (by intro u hu;simp at hu;subst hu;rfl) (by omega) ?_;intro v' w9 o9 g9 b9;obtain⟨la',lc',rfl⟩:=ownsRow_len o9;have R9:=hide (LvAt.more V8.out K8.out F8.out g9 o9 b9 rfl);clear o9 g9 b9))
   go_roundw
   case rel=>exact⟨j+1,_,_,by omega,by go_num,by rw [Hs1.out];exact R9.out.2.1,R9.out.2.2,by rw [Hs1.out];simpa using R9.out.1⟩
   case measure=>simp [intOf];omega
  ·have e:kids.take j=kids:=List.take_of_length_le (by omega)
   have hcn:=Hcnt.out j hj
   rw [e,<-Hp.out] at k2 l2 hcn
   have el:((kids.take j).foldl (onM T) (s.add 0 0,[])).2.length=p.2.length:=by rw [e,<-Hp.out]
   rw [el]
   have K2:=hide k2;have F2:=hide f2;have V2:=hide l2
   have d7':=d7
   clear k2 f2 l2 e el hbl d7 q7
   go_wp2_with (go_at_call 82;refine (cadd_any 16 0 _ K2.out (by omega)).mono ?_;rintro e w5 ⟨rfl,p5⟩;obtain⟨vc5,vb5,k5,f5⟩:=p5;have F5:=hide (F2.out.trans f5);have q7:w5.cell? ⟨nb,7,none⟩=some (.slice ka kids.length kc):=(by rw [<-d7'];exact (cell_at (Nd.out.low (F5.out.low H.out)).cells 7).trans (cell_at Nd.out.cells 7).symm);have K5:=hide k5;have V5:=hide (V2.out.next f5);clear k5 f5 K2)
   go_loopw [7,8,9,35] (fun lv _ _ x wr=>∃ (j:Nat) (vcj vbj:Value),j≤kids.length∧x=.int .i64 j∧MkAt wr lo b (((kids.zip p.2).take j).foldl (landsM (belowF T f)) (p.1.add 16 0,[])).1 vcj vbj∧MkFr b vc vb vcj vbj w wr∧LvAt w.heap.size wr b vcj vbj lv (((kids.zip p.2).take j).foldl (landsM (belowF T f)) (p.1.add 16 0,[])).2∧LvAt w.heap.size wr b vcj vbj (.slice la p.2.length lc) p.2∧∀ g,(Value.slice la p.2.length lc).ownBlock=some g->lv.ownBlock≠some g) (fun _ _ _ x _=>kids.length - (intOf x).toNat)
   case atStart=>exact⟨0,_,_,Nat.zero_le _,rfl,K5.out,F5.out,LvAt.nil _ _ _ _ _,V5.out,fun g _ e=>by simp [Value.ownBlock] at e⟩
   case round =>
    obtain⟨j2,vcj2,vbj2,hj2,rfl,k2,f2,l2,r2,dj⟩:=hrel
    have hbl:=f2.low H.out
    obtain⟨la2,lc2,hlv2⟩:=ownsRow_len l2.own
    subst hlv2
    have hzl:(kids.zip p.2).length=kids.length:=by rw [List.length_zip,Hpl.out];omega
    by_cases hlt2:j2<kids.length
    ·have hpj:j2<p.2.length:=by rw [Hpl.out];exact hlt2
     have hrow1:wr.ownsRow 0 54 1 (.slice ka kids.length kc) kids.length (kids.map (ptrTo ms)):=ownsRow_frame Hrow.out (fun g hg=>hbl.block g (Hklt.out g hg))
     obtain⟨g,cap,cur,e1,hg,hn,hcc,hsz,hxs⟩:=row_pos hrow1 (by omega)
     have hcell:wr.cell? ⟨g,j2,none⟩=some (ptrTo ms kids[j2]):=ownsRow_cell (n:=kids.length * 1) hg hxs (by simp [List.getElem?_eq_getElem hlt2])
     obtain⟨g',cap',cur',e1',hg',hn',hcc',hsz',hxs'⟩:=row_pos r2.own (by omega)
     have hcell':wr.cell? ⟨g',j2,none⟩=some (.int .i64 (p.2[j2]:Nat)):=ownsRow_cell (n:=p.2.length * 1) hg' hxs' (natsV_at p.2 j2 hpj)
     have hm1:=Hm2.out (j2+1)
     have hm0:=Hm2.out j2
     have hm00:p.1.br.length≤(((kids.zip p.2).take j2).foldl (landsM (belowF T f)) (p.1.add 16 0,[])).1.br.length:=(foldl_le (fun p:CM×List Nat=>p.1) _ (landsM_le (fun i s=>belowF_le (T:=T) f i s)) ((kids.zip p.2).take j2) (p.1.add 16 0,[])).2
     have hs1:=Hs2.out j2 (by omega)
     have ez:(kids.zip p.2)[j2]'(by omega)=(kids[j2],p.2[j2]):=List.getElem_zip
     rw [ez] at hs1
     have hkj:=Hup.out kids[j2] (List.getElem_mem hlt2)
     have hko:=(Hkk.out kids[j2] (List.getElem_mem hlt2)).1
     have hcn2:=Hcnt2.out j2 hj2
     have hpb:=Hbin.out p.2[j2] (List.getElem_mem hpj)
     rw [hs1] at hm1
     have tr2:=Ht.out.low hbl
     generalize hS:((kids.zip p.2).take j2).foldl (landsM (belowF T f)) (p.1.add 16 0,[])=S at *
     have hm1':Le ((belowF T f kids[j2] (S.1.land p.2[j2])).add 19 0) q.1:=hm1
     have hs1':((kids.zip p.2).take (j2+1)).foldl (landsM (belowF T f)) (p.1.add 16 0,[])=((belowF T f kids[j2] (S.1.land p.2[j2])).add 19 0,S.2++[(belowF T f kids[j2] (S.1.land p.2[j2])).code.length]):=hs1
     have ea:((belowF T f kids[j2] (S.1.land p.2[j2])).add 19 0).code.length=(belowF T f kids[j2] (S.1.land p.2[j2])).code.length+1:=by simp [CM.add]
     have hS0:S.1.code.length≤800000∧S.1.br.length≤800000:=⟨Nat.le_trans hm0.1 hc,Nat.le_trans hm0.2 hb⟩
     have B:Hid (∀ w vc vb,TrAt w lo T ms->MkAt w lo b (S.1.land p.2[j2]) vc vb->Calls Tryz.prog 148 #[.pointer (some ⟨b,0,none⟩),ptrTo ms kids[j2]] w fun e w'=>e=.returned (.tuple #[])∧MkPost lo b vc vb w (belowF T f kids[j2] (S.1.land p.2[j2])) w'):=hide (fun w vc vb ht h=>cbelow_any PP.out hko.up hkj.2 (by omega) w _ vc vb ht h (by have:=hm1'.1;omega) (Nat.le_trans hm1'.2 hb) (by have:=hko.few;omega))
     have LL:=hide (cland_any wr k2 p.2[j2] (Nat.lt_of_lt_of_le hpb hm00) (by omega))
     have M4:(belowF T f kids[j2] (S.1.land p.2[j2])).code.length+1≤1000000:=by have:=hm1'.1;omega
     have Hs1:=hide hs1';have F2':=hide f2;have L2':=hide l2;have R2':=hide r2;have Dj:=hide dj;have Tr2:=hide tr2
     clear hrow1 hg hxs hsz hg' hxs' hsz' k2 f2 l2 r2 dj hbl hm1 hm0 hm00 hm1' hs1 hs1' hkj hko tr2 ez hpb hS hS0 ea
     simp only [Value.slice.injEq,true_and] at e1 e1'
     obtain⟨rfl,rfl⟩:=e1
     obtain⟨rfl,rfl⟩:=e1'
     unfold ptrTo at hcell B
     generalize belowF T f kids[j2] (S.1.land p.2[j2])=s3 at *
     generalize p.2[j2]=pj at *
     generalize kids[j2]=kid at *
     generalize blkOf ms kid=kb at *
     obtain⟨S1,S2⟩:=S
     simp only at *
     go_wp2_with (first
      | (go_at_call 193;refine LL.out.mono ?_;rintro e w6 ⟨rfl,p6⟩;obtain⟨vc6,vb6,k6,f6⟩:=p6;have K6:=hide k6;have F6:=hide (F2'.out.trans f6);have V6:=hide (L2'.out.next f6);have R6:=hide (R2'.out.next f6);clear k6 f6)
      | (go_at_call 148;refine (B.out _ _ _ (Ht.out.low (F6.out.low H.out)) K6.out).mono ?_;rintro e w7 ⟨rfl,p7⟩;obtain⟨vc7,vb7,k7,f7⟩:=p7;have K7:=hide k7;have F7:=hide (F6.out.trans f7);have V7:=hide (V6.out.next f7);have R7:=hide (R6.out.next f7);clear k7 f7)
      | (go_at_call 82;refine (cadd_any 19 0 _ K7.out M4).mono ?_;rintro e w8 ⟨rfl,p8⟩;obtain⟨vc8,vb8,k8,f8⟩:=p8;have K8:=hide k8;have F8:=hide (F7.out.trans f8);have V8:=hide (V7.out.next f8);have R8:=hide (R7.out.next f8);clear k8 f8 K7)
      | (at_builtin;refine wpList_appendM (by decide) Tryz.underlying36 intInfo' rfl (by decide) rfl _ _ rfl (.slice la2 S2.length lc2) S2.length (natsV S2) rfl (V8.out.own.alloc _) ⟨w8.heap.size,0,none⟩ 1 1 [.int .i64 s3.code.length] rfl rfl (by exact row_new _ _ rfl _ _) (by intro u hu;simp at hu;subst hu;rfl) (by omega) ?_;intro v' w9 o9 g9 b9;obtain⟨la',lc',rfl⟩:=ownsRow_len o9;have R9:=hide (LvAt.more V8.out K8.out F8.out g9 o9 b9 rfl);have P9:=hide (LvAt.past R8.out g9 Dj.out);have D9:=hide (apart_more R8.out Dj.out b9);clear o9 g9 b9))
     go_roundw
     case rel=>exact⟨j2+1,_,_,by omega,by go_num,by rw [Hs1.out];exact R9.out.2.1,R9.out.2.2,by rw [Hs1.out];simpa using R9.out.1,P9.out,D9.out⟩
     case measure=>simp [intOf];omega
    ·have e:(kids.zip p.2).take j2=kids.zip p.2:=List.take_of_length_le (by omega)
     have hcn2:=Hcnt2.out j2 hj2
     have hin:=Hin2.out j2
     rw [e,<-Hq.out] at k2 l2 hcn2 hin
     have el:(((kids.zip p.2).take j2).foldl (landsM (belowF T f)) (p.1.add 16 0,[])).2.length=q.2.length:=by rw [e,<-Hq.out]
     rw [el]
     have K6:=hide k2;have F6:=hide f2;have V6:=hide l2;have Hin:=hide hin
     clear k2 f2 l2 r2 dj hin e el hbl
     go_wp2_with (go_at_call 191;refine (caim_any _ K6.out q.2 la2 lc2 V6.out.own (fun g hg=>(V6.out.new g hg).2) Hin.out (by omega) (by omega)).mono ?_;rintro e w7 ⟨rfl,p7⟩;obtain⟨vc7,vb7,k7,f7⟩:=p7;have K7:=hide k7;have F7:=hide (F6.out.trans f7);clear k7 f7)
     go_end0
     exact⟨rfl,_,_,K7.out,F7.out⟩
end
end Go.Proofs.YtnhidaamfnjdjaaGreatDoor
namespace Go.Proofs.YtnhidaamfnjdjaaGreatDoor
open Go.RowKit Go.Maps
section
variable {T : List PNode} {ms : List NM} {lo b f i : Nat}
theorem beginM_in (pri:Bool) (p:CM×List Nat) (k:Nat) (h:PlIn p):PlIn (beginM pri p k):=by
 refine PlIn.snoc h (beginM_le pri p k) ?_
 show _<((_:CM).add _ _).code.length
 simp [CM.add]
set_option maxRecDepth 20000 in
set_option maxHeartbeats 8000000 in
theorem cbeside_any (P:ProcC T ms lo b f) (hkid:KidsOk T i) (hi:i<T.length) (hf:T.length≤i+1+f) (hkd:(T.getD i default).kind=8∨(T.getD i default).kind=9)
  (w:World) (s:CM) (vc vb:Value) (p:CM×List Nat) (q:CM) (hp:p=(List.range (T.getD i default).kids.length).foldl (beginM (decide ((T.getD i default).kind=9))) (s.add 0 0,[])) (hq:q=((T.getD i default).kids.zip p.2).foldl (begunM (procM T f)) (p.1.add 23 0)) (ht:TrAt w lo T ms) (h:MkAt w lo b s vc vb) (hc:q.code.length≤800000) (hb:q.br.length≤800000) :
  Calls Tryz.prog 153 #[.pointer (some ⟨b,0,none⟩),ptrTo ms i] w fun e w'=>e=.returned (.tuple #[])∧MkPost lo b vc vb w (q.aim p.1.code.length) w':=by
 have nd:=ht.nd i hi
 have d7:w.cell? ⟨blkOf ms i,7,none⟩=some (ms.getD i default).sl:=cell_at nd.cells 7
 have hrow:=ht.kids i hi
 have hklt:=ht.klt i hi
 obtain⟨ka,kc,hsl⟩:=ownsRow_len hrow
 have hmono:∀ j,Le (((List.range (T.getD i default).kids.length).take j).foldl (beginM (decide ((T.getD i default).kind=9))) (s.add 0 0,[])).1 p.1:=fun j=>by rw [hp];exact foldl_take_le (fun p:CM×List Nat=>p.1) _ (beginM_le _) _ _ j
 have hstep:=foldl_take_step (beginM (decide ((T.getD i default).kind=9))) (List.range (T.getD i default).kids.length) (s.add 0 0,[])
 have hpin:PlIn p:=by rw [hp];exact foldl_in _ (beginM_in _) _ _ (fun x hx=>by simp at hx)
 have hcnt:∀ j,j≤(T.getD i default).kids.length->(((List.range (T.getD i default).kids.length).take j).foldl (beginM (decide ((T.getD i default).kind=9))) (s.add 0 0,[])).2.length≤100000:=fun j hj=>by
  rw [foldl_cnt _ (fun p x=>by simp [beginM])]
  have:=hkid.few
  simp
  omega
 have hpl:p.2.length=(T.getD i default).kids.length:=by
  rw [hp,foldl_cnt _ (fun p x=>by simp [beginM])]
  simp
 have hmono2:∀ j,Le ((((T.getD i default).kids.zip p.2).take j).foldl (begunM (procM T f)) (p.1.add 23 0)) q:=fun j=>by rw [hq];exact foldl_take_le id _ (begunM_le (procM_le f)) _ _ j
 have hstep2:=foldl_take_step (begunM (procM T f)) ((T.getD i default).kids.zip p.2) (p.1.add 23 0)
 have hlow:∀ j,Le (p.1.add 23 0) ((((T.getD i default).kids.zip p.2).take j).foldl (begunM (procM T f)) (p.1.add 23 0)):=fun j=>foldl_le id _ (begunM_le (procM_le f)) _ _
 have hup:=hkid.up
 have hfew:=hkid.few
 generalize (T.getD i default).kids=kids at *
 rw [hsl] at d7 hrow hklt
 unfold ptrTo
 have hle0:=(hmono2 0).1
 simp only [List.take_zero,List.foldl_nil] at hle0
 have ep:(p.1.add 23 0).code.length=p.1.code.length+1:=by simp [CM.add]
 have L1:s.code.length+1≤1000000:=by
  have h1:=(hmono 0).1
  have h2:(s.add 0 0).code.length=s.code.length+1:=by simp [CM.add]
  simp only [List.take_zero,List.foldl_nil] at h1
  omega
 have L2:p.1.code.length+1≤800000:=by omega
 have L3:p.1.code.length<q.code.length:=by omega
 have d0:w.cell? ⟨blkOf ms i,0,none⟩=some (.int .i64 (T.getD i default).kind):=cell_at nd.cells 0
 generalize hkn:(T.getD i default).kind=kn at *
 have H:=hide h;have H0:=hide h;have Ht:=hide ht;have Hrow:=hide hrow;have Hklt:=hide hklt;have Hm:=hide hmono;have Hs:=hide hstep;have Hpin:=hide hpin;have Hcnt:=hide hcnt;have Hp:=hide hp;have PP:=hide P;have Hup:=hide hup;have Nd:=hide nd
 have Hm2:=hide hmono2;have Hs2:=hide hstep2;have Hlow:=hide hlow;have Hq:=hide hq;have Hpl:=hide hpl;have Hkn:=hide hkn
 clear h ht hrow hklt hmono hstep hpin hcnt hp P hup hsl nd hkid hmono2 hstep2 hlow hq hpl hle0 ep hkn
 generalize hnb:blkOf ms i=nb at *
 clear hnb
 go_enter Tryz.func153,Tryz.ntmps153
 go_wp2_with (go_at_call 82;refine (cadd_any 0 0 _ H0.out L1).mono ?_;rintro e w1 ⟨rfl,p1⟩;obtain⟨vc1,vb1,k1,f1⟩:=p1;have q7:w1.cell? ⟨nb,7,none⟩=some (.slice ka kids.length kc):=(by rw [<-d7];exact (cell_at (Nd.out.low (f1.low H.out)).cells 7).trans (cell_at Nd.out.cells 7).symm);have K1:=hide k1;have F1:=hide f1;clear k1 f1 H0)
 go_loopw [4,5,6,17] (fun lv _ _ x wr=>∃ (j:Nat) (vcj vbj:Value),j≤kids.length∧x=.int .i64 j∧MkAt wr lo b (((List.range kids.length).take j).foldl (beginM (decide (kn=9))) (s.add 0 0,[])).1 vcj vbj∧MkFr b vc vb vcj vbj w wr∧LvAt w.heap.size wr b vcj vbj lv (((List.range kids.length).take j).foldl (beginM (decide (kn=9))) (s.add 0 0,[])).2) (fun _ _ _ x _=>kids.length - (intOf x).toNat)
 case atStart=>exact⟨0,_,_,Nat.zero_le _,rfl,K1.out,F1.out,LvAt.nil _ _ _ _ _⟩
 case round =>
  obtain⟨j,vcj,vbj,hj,rfl,k2,f2,l2⟩:=hrel
  have hbl:=f2.low H.out
  obtain⟨la,lc,hlv⟩:=ownsRow_len l2.own
  subst hlv
  have q0:wr.cell? ⟨nb,0,none⟩=some (.int .i64 kn):=by rw [<-d0];exact (cell_at (Nd.out.low hbl).cells 0).trans (cell_at Nd.out.cells 0).symm
  by_cases hlt:j<kids.length
  ·have hm1:=Hm.out (j+1)
   have hs1:=Hs.out j (by simpa using hlt)
   have hcn:=Hcnt.out j hj
   rw [List.getElem_range] at hs1
   rw [hs1] at hm1
   generalize ((List.range kids.length).take j).foldl (beginM (decide (kn=9))) (s.add 0 0,[])=S at *
   have hm1':Le (S.1.add (if decide (kn=9)=true∧j=0 then 22 else 21) 0) p.1:=hm1
   have hs1':((List.range kids.length).take (j+1)).foldl (beginM (decide (kn=9))) (s.add 0 0,[])=(S.1.add (if decide (kn=9)=true∧j=0 then 22 else 21) 0,S.2++[S.1.code.length]):=hs1
   have M1:S.1.code.length+1≤1000000:=by
    have h1:=hm1'.1
    have h2:(S.1.add (if decide (kn=9)=true∧j=0 then 22 else 21) 0).code.length=S.1.code.length+1:=by simp [CM.add]
    omega
   obtain⟨S1,S2⟩:=S
   simp only at *
   have K2:=hide k2;have F2:=hide f2;have L2':=hide l2
   clear k2 f2 l2 hbl hm1 hm1' hs1
   rcases hkd with hk8|hk9
   ·rw [if_neg (by rw [hk8];simp)] at hs1'
    rw [hk8] at q0
    have Hs1:=hide hs1'
    clear hs1' hk8
    go_wp2_with (first
     | (go_at_call 82;refine (cadd_any 21 0 _ K2.out M1).mono ?_;rintro e w8 ⟨rfl,p8⟩;obtain⟨vc8,vb8,k8,f8⟩:=p8;have K8:=hide k8;have F8:=hide (F2.out.trans f8);have V8:=hide (L2'.out.next f8);clear k8 f8)
     | (at_builtin;refine wpList_appendM (by decide) Tryz.underlying36 intInfo' rfl (by decide) rfl _ _ rfl (.slice la S2.length lc) S2.length (natsV S2) rfl (V8.out.own.alloc _) ⟨w8.heap.size,0,none⟩ 1 1 [.int .i64 S1.code.length] rfl rfl (by exact row_new _ _ rfl _ _) (by intro u hu;simp at hu;subst hu;rfl) (by omega) ?_;intro v' w9 o9 g9 b9;obtain⟨la',lc',rfl⟩:=ownsRow_len o9;have R9:=hide (LvAt.more V8.out K8.out F8.out g9 o9 b9 rfl);clear o9 g9 b9))
    go_roundw
    case rel=>exact⟨j+1,_,_,by omega,by go_num,by rw [Hs1.out];exact R9.out.2.1,R9.out.2.2,by rw [Hs1.out];simpa using R9.out.1⟩
    case measure=>simp [intOf];omega
   ·by_cases hj0:j=0
    ·rw [if_pos ⟨by rw [hk9];rfl,hj0⟩] at hs1'
     rw [hk9] at q0
     have ej:(((j:Nat):Int) == 0)=true:=by rw [hj0];rfl
     have Hs1:=hide hs1'
     clear hs1' hk9 hj0
     go_wp2_with (first
      | (go_at_call 82;refine (cadd_any 22 0 _ K2.out M1).mono ?_;rintro e w8 ⟨rfl,p8⟩;obtain⟨vc8,vb8,k8,f8⟩:=p8;have K8:=hide k8;have F8:=hide (F2.out.trans f8);have V8:=hide (L2'.out.next f8);clear k8 f8)
      | (at_builtin;refine wpList_appendM (by decide) Tryz.underlying36 intInfo' rfl (by decide) rfl _ _ rfl (.slice la S2.length lc) S2.length (natsV S2) rfl (V8.out.own.alloc _) ⟨w8.heap.size,0,none⟩ 1 1 [.int .i64 S1.code.length] rfl rfl (by exact row_new _ _ rfl _ _) (by intro u hu;simp at hu;subst hu;rfl) (by omega) ?_;intro v' w9 o9 g9 b9;obtain⟨la',lc',rfl⟩:=ownsRow_len o9;have R9:=hide (LvAt.more V8.out K8.out F8.out g9 o9 b9 rfl);clear o9 g9 b9))
     go_roundw
     case rel=>exact⟨j+1,_,_,by omega,by go_num,by rw [Hs1.out];exact R9.out.2.1,R9.out.2.2,by rw [Hs1.out];simpa using R9.out.1⟩
     case measure=>simp [intOf];omega
    ·rw [if_neg (fun x=>hj0 x.2)] at hs1'
     rw [hk9] at q0
     have ej:(((j:Nat):Int) == 0)=false:=by rw [beq_eq_false_iff_ne];omega
     have Hs1:=hide hs1'
     clear hs1' hk9 hj0
     go_wp2_with (first
      | (go_at_call 82;refine (cadd_any 21 0 _ K2.out M1).mono ?_;rintro e w8 ⟨rfl,p8⟩;obtain⟨vc8,vb8,k8,f8⟩:=p8;have K8:=hide k8;have F8:=hide (F2.out.trans f8);have V8:=hide (L2'.out.next f8);clear k8 f8)
      | (at_builtin;refine wpList_appendM (by decide) Tryz.underlying36 intInfo' rfl (by decide) rfl _ _ rfl (.slice la S2.length lc) S2.length (natsV S2) rfl (V8.out.own.alloc _) ⟨w8.heap.size,0,none⟩ 1 1 [.int .i64 S1.code.length] rfl rfl (by exact row_new _ _ rfl _ _) (by intro u hu;simp at hu;subst hu;rfl) (by omega) ?_;intro v' w9 o9 g9 b9;obtain⟨la',lc',rfl⟩:=ownsRow_len o9;have R9:=hide (LvAt.more V8.out K8.out F8.out g9 o9 b9 rfl);clear o9 g9 b9))
     go_roundw
     case rel=>exact⟨j+1,_,_,by omega,by go_num,by rw [Hs1.out];exact R9.out.2.1,R9.out.2.2,by rw [Hs1.out];simpa using R9.out.1⟩
     case measure=>simp [intOf];omega
  ·have e:(List.range kids.length).take j=List.range kids.length:=List.take_of_length_le (by simp;omega)
   have hcn:=Hcnt.out j hj
   rw [e,<-Hp.out] at k2 l2 hcn
   have el:(((List.range kids.length).take j).foldl (beginM (decide (kn=9))) (s.add 0 0,[])).2.length=p.2.length:=by rw [e,<-Hp.out]
   rw [el]
   have K2:=hide k2;have F2:=hide f2;have V2:=hide l2
   have d7':=d7
   clear k2 f2 l2 e el hbl d7 q7 q0 d0
   go_wp2_with (go_at_call 82;refine (cadd_any 23 0 _ K2.out (by omega)).mono ?_;rintro e w5 ⟨rfl,p5⟩;obtain⟨vc5,vb5,k5,f5⟩:=p5;have F5:=hide (F2.out.trans f5);have q7:w5.cell? ⟨nb,7,none⟩=some (.slice ka kids.length kc):=(by rw [<-d7'];exact (cell_at (Nd.out.low (F5.out.low H.out)).cells 7).trans (cell_at Nd.out.cells 7).symm);have K5:=hide k5;have V5:=hide (V2.out.next f5);clear k5 f5 K2)
   go_loopw [8,9,43] (fun _ _ x wr=>∃ (j:Nat) (vcj vbj:Value),j≤kids.length∧x=.int .i64 j∧MkAt wr lo b (((kids.zip p.2).take j).foldl (begunM (procM T f)) (p.1.add 23 0)) vcj vbj∧MkFr b vc vb vcj vbj w wr∧LvAt w.heap.size wr b vcj vbj (.slice la p.2.length lc) p.2) (fun _ _ x _=>kids.length - (intOf x).toNat)
   case atStart=>exact⟨0,_,_,Nat.zero_le _,rfl,K5.out,F5.out,V5.out⟩
   case round =>
    obtain⟨j2,vcj2,vbj2,hj2,rfl,k2,f2,r2⟩:=hrel
    have hbl:=f2.low H.out
    have hzl:(kids.zip p.2).length=kids.length:=by rw [List.length_zip,Hpl.out];omega
    by_cases hlt2:j2<kids.length
    ·have hpj:j2<p.2.length:=by rw [Hpl.out];exact hlt2
     have hrow1:wr.ownsRow 0 54 1 (.slice ka kids.length kc) kids.length (kids.map (ptrTo ms)):=ownsRow_frame Hrow.out (fun g hg=>hbl.block g (Hklt.out g hg))
     obtain⟨g,cap,cur,e1,hg,hn,hcc,hsz,hxs⟩:=row_pos hrow1 (by omega)
     have hcell:wr.cell? ⟨g,j2,none⟩=some (ptrTo ms kids[j2]):=ownsRow_cell (n:=kids.length * 1) hg hxs (by simp [List.getElem?_eq_getElem hlt2])
     obtain⟨g',cap',cur',e1',hg',hn',hcc',hsz',hxs'⟩:=row_pos r2.own (by omega)
     have hcell':wr.cell? ⟨g',j2,none⟩=some (.int .i64 (p.2[j2]:Nat)):=ownsRow_cell (n:=p.2.length * 1) hg' hxs' (natsV_at p.2 j2 hpj)
     have hm1:=Hm2.out (j2+1)
     have hm00:=(Hlow.out j2).1
     have hs1:=Hs2.out j2 (by omega)
     have ez:(kids.zip p.2)[j2]'(by omega)=(kids[j2],p.2[j2]):=List.getElem_zip
     rw [ez] at hs1
     have hkj:=Hup.out kids[j2] (List.getElem_mem hlt2)
     have hpb:=Hpin.out p.2[j2] (List.getElem_mem hpj)
     rw [hs1] at hm1
     have ep:(p.1.add 23 0).code.length=p.1.code.length+1:=by simp [CM.add]
     generalize hS:((kids.zip p.2).take j2).foldl (begunM (procM T f)) (p.1.add 23 0)=S at *
     have hm1':Le ((procM T f kids[j2] (S.aim p.2[j2])).add 24 0) q:=hm1
     have hs1':((kids.zip p.2).take (j2+1)).foldl (begunM (procM T f)) (p.1.add 23 0)=(procM T f kids[j2] (S.aim p.2[j2])).add 24 0:=hs1
     have ea:((procM T f kids[j2] (S.aim p.2[j2])).add 24 0).code.length=(procM T f kids[j2] (S.aim p.2[j2])).code.length+1:=by simp [CM.add]
     have hle:=procM_le (T:=T) f kids[j2] (S.aim p.2[j2])
     have eS:(S.aim p.2[j2]).code.length=S.code.length:=by simp [CM.aim]
     have B:Hid (∀ w vc vb,TrAt w lo T ms->MkAt w lo b (S.aim p.2[j2]) vc vb->Calls Tryz.prog 81 #[.pointer (some ⟨b,0,none⟩),ptrTo ms kids[j2]] w fun e w'=>e=.returned (.tuple #[])∧MkPost lo b vc vb w (procM T f kids[j2] (S.aim p.2[j2])) w'):=hide (fun w vc vb ht h=>PP.out kids[j2] hkj.2 (by omega) w _ vc vb ht h (by have:=hm1'.1;omega) (Nat.le_trans hm1'.2 hb))
     have AA:=hide (caim_at wr k2 p.2[j2] (by omega) (by have:=hm1'.1;have:=hle.1;omega))
     have M4:(procM T f kids[j2] (S.aim p.2[j2])).code.length+1≤1000000:=by have:=hm1'.1;omega
     have Hs1:=hide hs1';have F2':=hide f2;have R2':=hide r2
     clear hrow1 hg hxs hsz hg' hxs' hsz' k2 f2 r2 hbl hm1 hm00 hm1' hs1 hs1' hkj ez hpb hS ea eS hle ep
     simp only [Value.slice.injEq,true_and] at e1 e1'
     obtain⟨rfl,rfl⟩:=e1
     obtain⟨rfl,rfl⟩:=e1'
     unfold ptrTo at hcell B
     generalize procM T f kids[j2] (S.aim p.2[j2])=s3 at *
     generalize p.2[j2]=pj at *
     generalize kids[j2]=kid at *
     generalize blkOf ms kid=kb at *
     go_wp2_with (first
      | (go_at_call 191;refine AA.out.mono ?_;rintro e w6 ⟨rfl,p6⟩;obtain⟨vc6,vb6,k6,f6⟩:=p6;have K6:=hide k6;have F6:=hide (F2'.out.trans f6);have R6:=hide (R2'.out.next f6);clear k6 f6)
      | (go_at_call 81;refine (B.out _ _ _ (Ht.out.low (F6.out.low H.out)) K6.out).mono ?_;rintro e w7 ⟨rfl,p7⟩;obtain⟨vc7,vb7,k7,f7⟩:=p7;have K7:=hide k7;have F7:=hide (F6.out.trans f7);have R7:=hide (R6.out.next f7);clear k7 f7)
      | (go_at_call 82;refine (cadd_any 24 0 _ K7.out M4).mono ?_;rintro e w8 ⟨rfl,p8⟩;obtain⟨vc8,vb8,k8,f8⟩:=p8;have K8:=hide k8;have F8:=hide (F7.out.trans f8);have R8:=hide (R7.out.next f8);clear k8 f8 K7))
     go_roundw
     case rel=>exact⟨j2+1,_,_,by omega,by go_num,by rw [Hs1.out];exact K8.out,F8.out,R8.out⟩
     case measure=>simp [intOf];omega
    ·have e:(kids.zip p.2).take j2=kids.zip p.2:=List.take_of_length_le (by omega)
     rw [e,<-Hq.out] at k2
     have K6:=hide k2;have F6:=hide f2
     clear k2 f2 r2 e hbl
     go_wp2_with (go_at_call 191;refine (caim_at _ K6.out p.1.code.length L3 (by omega)).mono ?_;rintro e w7 ⟨rfl,p7⟩;obtain⟨vc7,vb7,k7,f7⟩:=p7;have K7:=hide k7;have F7:=hide (F6.out.trans f7);clear k7 f7)
     go_end0
     exact⟨rfl,_,_,K7.out,F7.out⟩
end
end Go.Proofs.YtnhidaamfnjdjaaGreatDoor
namespace Go.Proofs.YtnhidaamfnjdjaaGreatDoor
open Go.RowKit Go.Maps
structure TOk (T:List PNode):Prop where
 kids:∀ i,i<T.length->KidsOk T i
 nd:∀ i,i<T.length->0≤(T.getD i default).nd∧(T.getD i default).nd≤100000
 asks:∀ i,i<T.length->(T.getD i default).kind=10->fullE (T.getD i default).expr=true
 whens:∀ i,i<T.length->(T.getD i default).kind=11->∀ k∈(T.getD i default).kids,fullE (T.getD k default).expr=true
 ons:∀ i,i<T.length->(T.getD i default).kind=13->∀ k∈(T.getD i default).kids,(T.getD k default).expr=.nil∨fullE (T.getD k default).expr=true
 line:∀ i,i<T.length->LineOk (T.getD i default)
 size:∀ i,i<T.length->sizeE (T.getD i default).expr≤10000
section
variable {T : List PNode} {ms : List NM} {lo b : Nat}
set_option maxRecDepth 20000 in
set_option maxHeartbeats 4000000 in
theorem cproc_one {i g:Nat} {n:PNode} {m:NM} (w:World) (s':CM) (vc vb:Value) (hn:NdAt w lo (blkOf ms i) n m)
  (hg:(n.kind=7∧g=148)∨((n.kind=15∨n.kind=16)∧g=149)∨(n.kind=10∧g=150)∨(n.kind=11∧g=151)∨(n.kind=13∧g=152)∨((n.kind=8∨n.kind=9)∧g=153))
  (C:Calls Tryz.prog g #[.pointer (some ⟨b,0,none⟩),ptrTo ms i] w fun e w'=>e=.returned (.tuple #[])∧MkPost lo b vc vb w s' w') :
  Calls Tryz.prog 81 #[.pointer (some ⟨b,0,none⟩),ptrTo ms i] w fun e w'=>e=.returned (.tuple #[])∧MkPost lo b vc vb w s' w':=by
 have d0:w.cell? ⟨blkOf ms i,0,none⟩=some (.int .i64 n.kind):=cell_at hn.cells 0
 unfold ptrTo at C ⊢
 have CC:=hide C
 clear C hn
 generalize blkOf ms i=nb at *
 rcases hg with ⟨hk,rfl⟩|⟨hk|hk,rfl⟩|⟨hk,rfl⟩|⟨hk,rfl⟩|⟨hk,rfl⟩|⟨hk|hk,rfl⟩
 all_goals
  rw [hk] at d0
  clear hk
  go_enter Tryz.func81,Tryz.ntmps81
  go_wp2_with (first
   | (go_at_call 148;refine CC.out.mono ?_;rintro e w5 ⟨rfl,p5⟩;have P5:=hide p5;clear p5)
   | (go_at_call 149;refine CC.out.mono ?_;rintro e w5 ⟨rfl,p5⟩;have P5:=hide p5;clear p5)
   | (go_at_call 150;refine CC.out.mono ?_;rintro e w5 ⟨rfl,p5⟩;have P5:=hide p5;clear p5)
   | (go_at_call 151;refine CC.out.mono ?_;rintro e w5 ⟨rfl,p5⟩;have P5:=hide p5;clear p5)
   | (go_at_call 152;refine CC.out.mono ?_;rintro e w5 ⟨rfl,p5⟩;have P5:=hide p5;clear p5)
   | (go_at_call 153;refine CC.out.mono ?_;rintro e w5 ⟨rfl,p5⟩;have P5:=hide p5;clear p5))
  go_end0
  exact⟨rfl,P5.out⟩
set_option maxRecDepth 20000 in
set_option maxHeartbeats 4000000 in
theorem cproc_line {i:Nat} {n:PNode} {m:NM} (w:World) (s':CM) (vc vb:Value) (hn:NdAt w lo (blkOf ms i) n m)
  (hk:n.kind≠7∧n.kind≠15∧n.kind≠16∧n.kind≠10∧n.kind≠11∧n.kind≠13∧n.kind≠8∧n.kind≠9)
  (C:Calls Tryz.prog 154 #[.pointer (some ⟨b,0,none⟩),ptrTo ms i] w fun e w'=>e=.returned (.tuple #[])∧MkPost lo b vc vb w s' w') :
  Calls Tryz.prog 81 #[.pointer (some ⟨b,0,none⟩),ptrTo ms i] w fun e w'=>e=.returned (.tuple #[])∧MkPost lo b vc vb w s' w':=by
 have d0:w.cell? ⟨blkOf ms i,0,none⟩=some (.int .i64 n.kind):=cell_at hn.cells 0
 unfold ptrTo at C ⊢
 have CC:=hide C
 clear C hn
 generalize blkOf ms i=nb at *
 obtain⟨h1,h2,h3,h4,h5,h6,h7,h8⟩:=hk
 have j1:(n.kind == 7)=false:=by simpa using h1
 have j2:(n.kind == 15)=false:=by simpa using h2
 have j3:(n.kind == 16)=false:=by simpa using h3
 have j4:(n.kind == 10)=false:=by simpa using h4
 have j5:(n.kind == 11)=false:=by simpa using h5
 have j6:(n.kind == 13)=false:=by simpa using h6
 have j7:(n.kind == 8)=false:=by simpa using h7
 have j8:(n.kind == 9)=false:=by simpa using h8
 clear h1 h2 h3 h4 h5 h6 h7 h8
 go_enter Tryz.func81,Tryz.ntmps81
 go_wp2_with (go_at_call 154;refine CC.out.mono ?_;rintro e w5 ⟨rfl,p5⟩;have P5:=hide p5;clear p5)
 go_end0
 exact⟨rfl,P5.out⟩
theorem procM_succ (T:List PNode) (f i:Nat) (s:CM):procM T (f+1) i s =
  if (T.getD i default).kind=7 then belowF T f i s
  else if (T.getD i default).kind=15∨(T.getD i default).kind=16 then belowF T f i (if (T.getD i default).kind=15 then ({ s with room:=max s.room ((T.getD i default).nd+1) }:CM).add 11 (T.getD i default).nd else { s with room:=max s.room ((T.getD i default).nd+1) })
  else if (T.getD i default).kind=10 then ((belowF T f i ((exprM (T.getD i default).expr (s.add 0 0)).add 18 0)).add 19 (s.code.length:Int)).aim (exprM (T.getD i default).expr (s.add 0 0)).code.length
  else if (T.getD i default).kind=11 then (((T.getD i default).kids.foldl (whenM T (belowF T f)) (s.add 0 0,[])).1.add 20 0).aims ((T.getD i default).kids.foldl (whenM T (belowF T f)) (s.add 0 0,[])).2
  else if (T.getD i default).kind=13 then (((T.getD i default).kids.zip ((T.getD i default).kids.foldl (onM T) (s.add 0 0,[])).2).foldl (landsM (belowF T f)) (((T.getD i default).kids.foldl (onM T) (s.add 0 0,[])).1.add 16 0,[])).1.aims (((T.getD i default).kids.zip ((T.getD i default).kids.foldl (onM T) (s.add 0 0,[])).2).foldl (landsM (belowF T f)) (((T.getD i default).kids.foldl (onM T) (s.add 0 0,[])).1.add 16 0,[])).2
  else if (T.getD i default).kind=8∨(T.getD i default).kind=9 then (((T.getD i default).kids.zip ((List.range (T.getD i default).kids.length).foldl (beginM (decide ((T.getD i default).kind=9))) (s.add 0 0,[])).2).foldl (begunM (procM T f)) (((List.range (T.getD i default).kids.length).foldl (beginM (decide ((T.getD i default).kind=9))) (s.add 0 0,[])).1.add 23 0)).aim ((List.range (T.getD i default).kids.length).foldl (beginM (decide ((T.getD i default).kind=9))) (s.add 0 0,[])).1.code.length
  else lineM (T.getD i default) s:=rfl
theorem cproc_any (ok:TOk T):∀ f,ProcC T ms lo b f
 | 0=>fun i hi hf=>by omega
 | f+1=>fun i hi hf w s vc vb ht h hc hb=>by
  have P:=cproc_any ok f
  have ko:=ok.kids i hi
  have nd:=ht.nd i hi
  have hkids:(T.getD i default).kids.length≤1000000:=by have:=ko.few;omega
  rw [procM_succ] at hc hb ⊢
  by_cases k7:(T.getD i default).kind=7
  ·rw [if_pos k7] at hc hb ⊢
   exact cproc_one w _ vc vb nd (.inl ⟨k7,rfl⟩) (cbelow_any P ko.up hi (by omega) w s vc vb ht h hc hb hkids)
  rw [if_neg k7] at hc hb ⊢
  by_cases kd:(T.getD i default).kind=15∨(T.getD i default).kind=16
  ·rw [if_pos kd] at hc hb ⊢
   exact cproc_one w _ vc vb nd (.inr (.inl ⟨kd,rfl⟩)) (cdecl_any P ko.up hi (by omega) hkids kd (ok.nd i hi) w s _ _ vc vb rfl rfl ht h hc hb)
  rw [if_neg kd] at hc hb ⊢
  by_cases k10:(T.getD i default).kind=10
  ·rw [if_pos k10] at hc hb ⊢
   refine cproc_one w _ vc vb nd (.inr (.inr (.inl ⟨k10,rfl⟩))) (cwhile_any P ko.up hi (by omega) hkids (ok.asks i hi k10) w s vc vb ht h ?_ ?_)
   ·simp only [CM.aim,CM.add,List.length_set,List.length_append,List.length_singleton] at hc
    exact hc
   ·simpa [CM.aim,CM.add] using hb
  rw [if_neg k10] at hc hb ⊢
  by_cases k11:(T.getD i default).kind=11
  ·rw [if_pos k11] at hc hb ⊢
   refine cproc_one w _ vc vb nd (.inr (.inr (.inr (.inl ⟨k11,rfl⟩)))) (cchoice_any P ko (fun k hk=>⟨ok.kids k (ko.up k hk).2,ok.whens i hi k11 k hk⟩) hi (by omega) w s vc vb _ rfl ht h ?_ ?_)
   ·have:=(aims_le' (((T.getD i default).kids.foldl (whenM T (belowF T f)) (s.add 0 0,[])).1.add 20 0) ((T.getD i default).kids.foldl (whenM T (belowF T f)) (s.add 0 0,[])).2).1
    have e:(((T.getD i default).kids.foldl (whenM T (belowF T f)) (s.add 0 0,[])).1.add 20 0).code.length=((T.getD i default).kids.foldl (whenM T (belowF T f)) (s.add 0 0,[])).1.code.length+1:=by simp [CM.add]
    omega
   ·have:=(aims_le' (((T.getD i default).kids.foldl (whenM T (belowF T f)) (s.add 0 0,[])).1.add 20 0) ((T.getD i default).kids.foldl (whenM T (belowF T f)) (s.add 0 0,[])).2).2
    exact Nat.le_trans this hb
  rw [if_neg k11] at hc hb ⊢
  by_cases k13:(T.getD i default).kind=13
  ·rw [if_pos k13] at hc hb ⊢
   exact cproc_one w _ vc vb nd (.inr (.inr (.inr (.inr (.inl ⟨k13,rfl⟩))))) (calt_any P ko (fun k hk=>⟨ok.kids k (ko.up k hk).2,ok.ons i hi k13 k hk⟩) hi (by omega) w s vc vb _ _ rfl rfl ht h (Nat.le_trans (aims_le' _ _).1 hc) (Nat.le_trans (aims_le' _ _).2 hb))
  rw [if_neg k13] at hc hb ⊢
  by_cases kb:(T.getD i default).kind=8∨(T.getD i default).kind=9
  ·rw [if_pos kb] at hc hb ⊢
   exact cproc_one w _ vc vb nd (.inr (.inr (.inr (.inr (.inr ⟨kb,rfl⟩))))) (cbeside_any P ko hi (by omega) kb w s vc vb _ _ rfl rfl ht h (Nat.le_trans (aim_le' _ _).1 hc) (Nat.le_trans (aim_le' _ _).2 hb))
  rw [if_neg kb] at hc hb ⊢
  have hl:=ok.line i hi
  have hz:=lineM_le (T.getD i default) s
  have hs:=ok.size i hi
  refine cproc_line w _ vc vb nd ⟨k7,fun x=>kd (.inl x),fun x=>kd (.inr x),k10,k11,k13,fun x=>kb (.inl x),fun x=>kb (.inr x)⟩ ?_
  exact cline_any w h nd hl (by have:=hz.1;omega) (by have:=hz.2;omega)
end
end Go.Proofs.YtnhidaamfnjdjaaGreatDoor
namespace Go.Proofs.YtnhidaamfnjdjaaGreatDoor
open Go.RowKit Go.Maps
structure PgAt (z:Nat) (w:World) (s:CM) (vc vb:Value):Prop where
 code:w.ownsRow 0 105 2 vc s.code.length (codeV s.code)
 br:w.ownsRow 0 207 3 vb s.br.length (waysV s.br)
 cbr:∀ g,vc.ownBlock=some g->vb.ownBlock≠some g
 lc:∀ g,vc.ownBlock=some g->z≤g
 lbr:∀ g,vb.ownBlock=some g->z≤g
theorem NdAt.more {w:World} {lo lo' nb:Nat} {n:PNode} {m:NM} (h:NdAt w lo nb n m) (hl:lo≤lo'):NdAt w lo' nb n m:=⟨h.cells,h.expr,Nat.le_trans h.ehi hl,Nat.lt_of_lt_of_le h.lt hl⟩
theorem TrAt.more {w:World} {lo lo':Nat} {T:List PNode} {ms:List NM} (h:TrAt w lo T ms) (hl:lo≤lo'):TrAt w lo' T ms:=⟨fun i hi=>(h.nd i hi).more hl,h.kids,fun i hi g hg=>Nat.lt_of_lt_of_le (h.klt i hi g hg) hl⟩
set_option maxRecDepth 20000 in
set_option maxHeartbeats 4000000 in
theorem cMake_any {T:List PNode} {ms:List NM} {i:Nat} (ok:TOk T) (hi:i<T.length) (w:World) (ht:TrAt w w.heap.size T ms) (hc:(procM T T.length i ⟨[],[],3⟩).code.length≤800000) (hb:(procM T T.length i ⟨[],[],3⟩).br.length≤800000) :
  Calls Tryz.prog 55 #[ptrTo ms i] w fun e w'=>∃ vc vb,e=.returned (.agg #[vc,vb,.int .i64 (makeF T i).room])∧PgAt w.heap.size w' (makeF T i) vc vb∧Below w.heap.size w w':=by
 have hz1:(w.alloc (.cells #[.slice none 0 0,.slice none 0 0,.int .i64 0] 89)).heap.size=w.heap.size+1:=by simp
 have P:=cproc_any (ms:=ms) (lo:=w.heap.size+1) (b:=w.heap.size+1) ok T.length
 have hres:((w.alloc (.cells #[.slice none 0 0,.slice none 0 0,.int .i64 0] 89)).alloc (.cells #[.slice none 0 0,.slice none 0 0,.int .i64 3] 159)).heap[w.heap.size]?=some (.cells #[.slice none 0 0,.slice none 0 0,.int .i64 0] 89):=at_alloc (at_new w _) _
 have hblk:=at_new (w.alloc (.cells #[.slice none 0 0,.slice none 0 0,.int .i64 0] 89)) (.cells #[.slice none 0 0,.slice none 0 0,.int .i64 3] 159)
 rw [hz1] at hblk
 have no:∀ g,(Value.slice none 0 0).ownBlock≠some g:=fun g e=>by simp [Value.ownBlock] at e
 have m0:MkAt ((w.alloc (.cells #[.slice none 0 0,.slice none 0 0,.int .i64 0] 89)).alloc (.cells #[.slice none 0 0,.slice none 0 0,.int .i64 3] 159)) (w.heap.size+1) (w.heap.size+1) ⟨[],[],3⟩ (.slice none 0 0) (.slice none 0 0) :=
  ⟨hblk,World.ownsRow_nil _ _ _ _,World.ownsRow_nil _ _ _ _,no _,no _,fun g e=>absurd e (no g),Nat.le_refl _,fun g e=>absurd e (no g),fun g e=>absurd e (no g)⟩
 have A1:=bel_alloc w (.cells #[.slice none 0 0,.slice none 0 0,.int .i64 0] 89)
 have A2:=bel_alloc (w.alloc (.cells #[.slice none 0 0,.slice none 0 0,.int .i64 0] 89)) (.cells #[.slice none 0 0,.slice none 0 0,.int .i64 3] 159)
 rw [hz1] at A2
 have A:Below w.heap.size w ((w.alloc (.cells #[.slice none 0 0,.slice none 0 0,.int .i64 0] 89)).alloc (.cells #[.slice none 0 0,.slice none 0 0,.int .i64 3] 159)):=⟨rfl,rfl,rfl,by simp;omega,fun k hk=>(A2.block k (by omega)).trans (A1.block k hk)⟩
 have C:=hide (P i hi (by omega) _ _ _ _ ((ht.low A).more (Nat.le_succ _)) m0 hc hb)
 have M0:=hide m0;have Aa:=hide A;have Hres:=hide hres
 have hn:(procM T T.length i ⟨[],[],3⟩).code.length+1≤1000000:=by omega
 have Hd:Hid (makeF T i=(procM T T.length i ⟨[],[],3⟩).add 24 0):=hide rfl
 rw [Hd.out]
 clear P hblk no m0 A A1 A2 ht hc hb ok hres hz1
 unfold ptrTo at C ⊢
 generalize procM T T.length i ⟨[],[],3⟩=sp at *
 generalize blkOf ms i=nb at *
 go_enter Tryz.func55,Tryz.ntmps55
 go_wp2_with (first
  | (go_at_call 81;refine C.out.mono ?_;rintro e w5 ⟨rfl,p5⟩;obtain⟨vc5,vb5,k5,f5⟩:=p5;have K5:=hide k5;have F5:=hide (f5.low M0.out);clear k5 f5)
  | (go_at_call 82;refine (cadd_any 24 0 _ K5.out hn).mono ?_;rintro e w6 ⟨rfl,p6⟩;obtain⟨vc6,vb6,k6,f6⟩:=p6;have F6:=hide (bel_tr F5.out (f6.low K5.out));have rs:=(F6.out.block w.heap.size (Nat.lt_succ_self _)).trans Hres.out;obtain⟨ca6,cc6,hvc⟩:=ownsRow_len k6.code;obtain⟨ba6,bc6,hvb⟩:=ownsRow_len k6.br;subst hvc;subst hvb;have c0:=k6.c0;have c1:=k6.c1;have c2:=k6.c2;have r0:w6.cell? ⟨w.heap.size,0,none⟩=some (.slice none 0 0):=cell_at rs 0;have r1:w6.cell? ⟨w.heap.size,1,none⟩=some (.slice none 0 0):=cell_at rs 1;have r2:w6.cell? ⟨w.heap.size,2,none⟩=some (.int .i64 0):=cell_at rs 2;have z6:∀ k,w6.frozen? ⟨w.heap.size,k,none⟩=false:=(fun k=>frozen_at rs k);have K6:=hide k6;have Rs:=hide rs;clear k6 f6 rs K5))
 have blk:∀ (u v x:Value) (g:Nat),g≠w.heap.size->(((w6.setCell ⟨w.heap.size,0,none⟩ u).setCell ⟨w.heap.size,1,none⟩ v).setCell ⟨w.heap.size,2,none⟩ x).heap[g]?=w6.heap[g]?:=by
  intro u v x g hg
  rw [Below.heap_setCell _ _ _ _ (fun e=>hg e),Below.heap_setCell _ _ _ _ (fun e=>hg e),Below.heap_setCell _ _ _ _ (fun e=>hg e)]
 refine bodyPost_ret (v:=.agg #[.slice ca6 (sp.add 24 0).code.length cc6,.slice ba6 (sp.add 24 0).br.length bc6,.int .i64 (sp.add 24 0).room]) ?_ rfl ⟨_,_,rfl,⟨ownsRow_frame K6.out.code (fun g hg=>blk _ _ _ g (by have:=K6.out.lc g hg;omega)),ownsRow_frame K6.out.br (fun g hg=>blk _ _ _ g (by have:=K6.out.lbr g hg;omega)),K6.out.cbr,fun g hg=>Nat.le_of_succ_le (K6.out.lc g hg),fun g hg=>Nat.le_of_succ_le (K6.out.lbr g hg)⟩,?_⟩
 ·have q:=at_setCell (at_setCell (at_setCell Rs.out 0 (.slice ca6 (sp.add 24 0).code.length cc6)) 1 (.slice ba6 (sp.add 24 0).br.length bc6)) 2 (.int .i64 (sp.add 24 0).room)
  generalize (((w6.setCell ⟨w.heap.size,0,none⟩ (.slice ca6 (sp.add 24 0).code.length cc6)).setCell ⟨w.heap.size,1,none⟩ (.slice ba6 (sp.add 24 0).br.length bc6)).setCell ⟨w.heap.size,2,none⟩ (.int .i64 (sp.add 24 0).room))=W at q ⊢
  have q0:W.cell? ⟨w.heap.size,0,none⟩=some (.slice ca6 (sp.add 24 0).code.length cc6):=cell_at q 0
  have q1:W.cell? ⟨w.heap.size,1,none⟩=some (.slice ba6 (sp.add 24 0).br.length bc6):=cell_at q 1
  have q2:W.cell? ⟨w.heap.size,2,none⟩=some (.int .i64 (sp.add 24 0).room):=cell_at q 2
  clear q
  simp [results,Tryz.results55,go_sem,q0,q1,q2]
 ·refine⟨F6.out.os.trans Aa.out.os,F6.out.tape.trans Aa.out.tape,F6.out.output.trans Aa.out.output,?_,fun g hg=>?_⟩
  ·have h1:=F6.out.size
   have h2:=Aa.out.size
   simp at h1 h2 ⊢
   omega
  ·rw [blk _ _ _ g (by omega),F6.out.block g (by omega)]
   exact Aa.out.block g hg
end Go.Proofs.YtnhidaamfnjdjaaGreatDoor
