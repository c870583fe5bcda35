import Derived.Test.YtnhidaamfnjdjaaGreatDoorZMacS
import Derived.Test.YtnhidaamfnjdjaaGreatDoorZMacO
import Derived.Test.YtnhidaamfnjdjaaGreatDoorZPure
import Derived.Deep.WholeRow
namespace Go.Proofs.YtnhidaamfnjdjaaGreatDoor
open Go.RowKit Go.Maps
section
variable {mb : Nat} {ρ : Nat → MR} {C : CM} {V : MV} {s : MS}
theorem goOn_kept (p:Nat) (s:MS):(s.goOn p).vars=s.vars∧(s.goOn p).procs.length=s.procs.length:=by
 unfold MS.goOn MS.setPr
 dsimp only
 split <;> simp
theorem recv_kept {c:Nat} {x:PCh} {n:Int} {l:List Int} (hx:s.chans[c]?=some x) (hn:x.nums=n :: l) (hw:∀ q,x.wr=some q->∃ y,s.procs[q]?=some y∧y.told=1):(s.receive c).1=n∧(s.receive c).2.vars=s.vars∧(s.receive c).2.procs.length=s.procs.length:=by
 have hlt:c<s.chans.length:=(List.getElem?_eq_some_iff.1 hx).1
 unfold MS.receive
 rw [ch_get hx,hn,setCh_nat]
 have e:({ s with chans:=s.chans.set c { x with nums:=(n :: l).tail } }:MS).ch (c:Int)={ x with nums:=l }:=ch_get (by show (s.chans.set c _)[c]?=_;rw [List.getElem?_set_self hlt];rfl)
 dsimp only
 rw [e]
 dsimp only
 cases hwr:x.wr with
 | none=>exact⟨rfl,rfl,rfl⟩
 | some q =>
  dsimp only
  obtain⟨y,hy,hyt⟩:=hw q hwr
  have key:∀ t:MS,t.procs=s.procs->t.vars=s.vars->(t.tell q 0 0).vars=s.vars∧(t.tell q 0 0).procs.length=s.procs.length:=fun t h1 h2=>by
   rw [tell_one (s:=t) (y:=y) (by rw [h1];exact hy) hyt,<-h1,<-h2]
   exact goOn_kept q t
  exact⟨rfl,key _ rfl rfl⟩
theorem mreceive_any {c g cap:Nat} {x:PCh} {n:Int} {l:List Int} (hx:s.chans[c]?=some x) (hv:V.ch=.slice (some ⟨g,0,none⟩) s.chans.length cap) (hn:x.nums=n :: l) (hw:∀ q,x.wr=some q->∃ y,s.procs[q]?=some y∧y.told=1) (w:World) (h:MsAt w mb ρ C V s) (hl:l.length≤20000000000000) (hu:s.urg.length+1≤1000000000000) (ho:s.oth.length+1≤1000000000000) :
  Calls Tryz.prog 164 #[.pointer (some ⟨g,c * 3,none⟩)] w fun e w'=>e=.returned (.int .i64 n)∧MsPost mb C ρ V w (s.receive c).2 w':=by
 cases hwr:x.wr with
 | none=>exact mreceive_none hx hv hn hwr w h hl
 | some q =>
  obtain⟨y,hy,hyt⟩:=hw q hwr
  exact mreceive_some hx hv hn hwr hy hyt w h hl hu ho
theorem findR_at {l:List (Int×Int×Int)} {f:Int×Int×Int->Bool} {j:Nat} (hj:j<l.length) (hne:∀ i,i<j->f (l.getD i (0,0,0))=false) (he:f (l.getD j (0,0,0))=true):l.find? f=some (l.getD j (0,0,0)):=by
 rw [List.find?_eq_some_iff_getElem]
 refine⟨he,j,hj,?_,fun i hi=>?_⟩
 ·rw [getD_lt _ _ _ hj]
 ·have:=hne i hi
  rw [getD_lt _ _ _ (by omega)] at this
  simpa using this
theorem findR_no {l:List (Int×Int×Int)} {f:Int×Int×Int->Bool} (hne:∀ i,i<l.length->f (l.getD i (0,0,0))=false):l.find? f=none:=by
 rw [List.find?_eq_none]
 intro a ha
 obtain⟨i,hi,rfl⟩:=List.getElem_of_mem ha
 have:=hne i hi
 rw [getD_lt _ _ _ hi] at this
 simpa using this
def junkR (ρ:Nat->MR) (b:Nat):Nat->MR:=fun g=>if g=b then .junk else ρ g
theorem MsAt.allocJ {w:World} (h:MsAt w mb ρ C V s) (O:Obj):MsAt (w.alloc O) mb (junkR ρ w.heap.size) C V s∧MsGo V V ρ (junkR ρ w.heap.size) w (w.alloc O):=by
 have fr:MsFr NoR ρ (junkR ρ w.heap.size) w (w.alloc O):=by
  refine⟨rfl,rfl,rfl,by simp,fun g hg _=>⟨Below.heap_alloc _ _ _ hg,?_⟩⟩
  unfold junkR
  rw [if_neg (by omega)]
 refine⟨MsIf.keep h fr ?_,fr.weak (fun r hr=>hr.elim),List.prefix_rfl⟩
 have:=h.rb.2
 unfold junkR
 rw [if_neg (by omega)]
 exact h.rb.1
theorem junkR_new (ρ:Nat->MR) (b:Nat):junkR ρ b b=.junk:=by unfold junkR;rw [if_pos rfl]
def MS.setRd (p:Nat) (s:MS) (b:Int×Int×Int):MS:=s.setCh b.1 { s.ch b.1 with rd:=some p }
theorem setRd_chans (s:MS) (p k:Nat) (x:PCh) (hx:s.chans[k]?=some x) (br:Int×Int×Int) (hb:br.1=k):MS.setRd p s br={ s with chans:=s.chans.set k { x with rd:=some p } }:=by
 unfold MS.setRd
 rw [hb,ch_get hx,setCh_nat]
theorem setRd_len (p:Nat) (br:Int×Int×Int) (s:MS):(MS.setRd p s br).chans.length=s.chans.length∧(MS.setRd p s br).procs=s.procs∧(MS.setRd p s br).cur=s.cur:=by
 unfold MS.setRd MS.setCh
 simp
theorem setRds_len (p:Nat):∀ (l:List (Int×Int×Int)) (s:MS),(l.foldl (MS.setRd p) s).chans.length=s.chans.length∧(l.foldl (MS.setRd p) s).procs=s.procs∧(l.foldl (MS.setRd p) s).cur=s.cur
 | [],_=>⟨rfl,rfl,rfl⟩
 | b :: l,s=>by
  have a:=setRd_len p b s
  have c:=setRds_len p l (MS.setRd p s b)
  simp only [List.foldl_cons]
  exact⟨c.1.trans a.1,c.2.1.trans a.2.1,c.2.2.trans a.2.2⟩
def MS.readF (s:MS) (p:Nat):MS :=
 match (s.pr p).opn.find? (fun b=>!(s.ch b.1).nums.isEmpty) with
  | some b=>(s.receive b.1).2.follow p b (s.receive b.1).1
  | none=>((s.pr p).opn.foldl (fun s b=>s.setCh b.1 { s.ch b.1 with rd:=some p }) s).wait p 2
set_option maxRecDepth 20000 in
set_option maxHeartbeats 4000000 in
theorem mread_any {p:Nat} {x:PPr} (hc:s.cur=some p) (hp:s.procs[p]?=some x) (hb:∀ br∈x.opn,(∃ k:Nat,br.1=k∧k<s.chans.length)∧∃ i:Nat,br.2.1=i∧i<s.vars.length) (hw:∀ y∈s.chans,∀ q,y.wr=some q->∃ z,s.procs[q]?=some z∧z.told=1) (hnl:∀ y∈s.chans,y.nums.length≤20000000000000) (a:Int) (w:World) (h:MsAt w mb ρ C V s) (hol:x.opn.length≤1000000000000) (hcl0:s.chans.length≤1000000000000) (hvl:s.vars.length≤1000000000000) (hu:s.urg.length+1≤1000000000000) (ho:s.oth.length+1≤1000000000000) :
  Calls Tryz.prog 99 #[.pointer (some ⟨mb,0,none⟩),.int .i64 a] w fun e w'=>e=.returned (.tuple #[])∧MsPost mb C ρ V w (s.readF p) w':=by
 have q:=h.proc p x hp (fun x=>x)
 have o:=h.opn p x hp (fun x=>x)
 have c5:=mcur_cell h
 rw [hc] at c5
 unfold MV.ptrO at c5
 simp only [Option.map_some] at c5
 obtain⟨oa,oc,hov⟩:=ownsRow_len o.1
 have d4:w.cell? ⟨V.pb.getD p 0,4,none⟩=some (.slice oa x.opn.length oc):=by rw [<-hov];exact cell_at q.1 4
 have hlen:=h.lens
 have hpl:p<s.procs.length:=(List.getElem?_eq_some_iff.1 hp).1
 have H:=hide h;have Hov:=hide hov
 clear h q o hov
 generalize hpb:V.pb.getD p 0=pb at *
 have Hpb:=hide hpb
 clear hpb
 go_enter Tryz.func99,Tryz.ntmps99
 go_wp2_with fail
 go_loopw [6,19] (fun _ y wr=>∃ (j:Nat) (ρ':Nat->MR),j≤x.opn.length∧y=.int .i64 j∧MsAt wr mb ρ' C V s∧MsGo V V ρ ρ' w wr∧∀ i,i<j->(!(s.ch (x.opn.getD i (0,0,0)).1).nums.isEmpty)=false) (fun _ y _=>x.opn.length - (intOf y).toNat)
 case atStart=>exact⟨0,ρ,Nat.zero_le _,rfl,H.out,MsGo.refl _ _ _,fun i hi=>by omega⟩
 case round =>
  obtain⟨j,ρ',hj,rfl,k1,f1,hne⟩:=hrel
  by_cases hlt:j<x.opn.length
  ·have o1:=k1.opn p x hp (fun x=>x)
   obtain⟨g,cap,cur,e1,hg,hn,hcc,hsz,hxs⟩:=row_pos o1.1 (by omega)
   have hov2:=Hov.out
   rw [hov2] at e1
   simp only [Value.slice.injEq,true_and] at e1
   obtain⟨rfl,rfl⟩:=e1
   have hww:=waysV_at x.opn j hlt
   have a0:wr.cell? ⟨g,j * 3,none⟩=some (.int .i64 (x.opn.getD j (0,0,0)).1):=ownsRow_cell hg hxs hww.1
   have a1:wr.cell? ⟨g,j * 3+1,none⟩=some (.int .i64 (x.opn.getD j (0,0,0)).2.1):=ownsRow_cell hg hxs hww.2.1
   have a2:wr.cell? ⟨g,j * 3+2,none⟩=some (.int .i64 (x.opn.getD j (0,0,0)).2.2):=ownsRow_cell hg hxs hww.2.2
   obtain⟨⟨k,hbk,hkl⟩,i,hbi,hil⟩:=hb (x.opn.getD j (0,0,0)) (by rw [getD_lt _ _ _ hlt];exact List.getElem_mem hlt)
   obtain⟨y,hy⟩:∃ y,s.chans[k]?=some y:=⟨_,List.getElem?_eq_getElem hkl⟩
   have hym:y∈s.chans:=List.mem_of_getElem? hy
   have hch:s.ch (x.opn.getD j (0,0,0)).1=y:=by rw [hbk];exact ch_get hy
   rw [hbk] at a0
   have kA:=k1.allocJ (.cells #[.int .i64 (k:Int),.int .i64 (x.opn.getD j (0,0,0)).2.1,.int .i64 (x.opn.getD j (0,0,0)).2.2] 207)
   have hB:=at_new wr (.cells #[.int .i64 (k:Int),.int .i64 (x.opn.getD j (0,0,0)).2.1,.int .i64 (x.opn.getD j (0,0,0)).2.2] 207)
   have b0:=cell_at hB 0
   have b1:=cell_at hB 1
   have b2:=cell_at hB 2
   have hB8:∀ (w8:World) (ρ8:Nat->MR) (V8:MV),MsGo V V8 (junkR ρ' wr.heap.size) ρ8 (wr.alloc (.cells #[.int .i64 (k:Int),.int .i64 (x.opn.getD j (0,0,0)).2.1,.int .i64 (x.opn.getD j (0,0,0)).2.2] 207)) w8->w8.cell? ⟨wr.heap.size,0,none⟩=some (.int .i64 (k:Int))∧w8.cell? ⟨wr.heap.size,1,none⟩=some (.int .i64 (x.opn.getD j (0,0,0)).2.1)∧w8.cell? ⟨wr.heap.size,2,none⟩=some (.int .i64 (x.opn.getD j (0,0,0)).2.2):=by
    intro w8 ρ8 V8 g8
    have e:=(g8.fr.block wr.heap.size (by simp) (by rw [junkR_new];simp)).1
    rw [hB] at e
    exact⟨cell_at e 0,cell_at e 1,cell_at e 2⟩
   obtain⟨g2,cap2,hv2,h21,h22,c3,e0,e1,e2,fz2,ne2⟩:=mchan_at kA.1 hy
   have Cb:=hide (fun w' h'=>mcanBeRead_any (mb:=mb) (ρ:=junkR ρ' wr.heap.size) (C:=C) hy hv2 w' h')
   have KA:=hide kA.1
   have FA:=hide (f1.trans kA.2)
   cases hnu:y.nums with
   | nil =>
    rw [hnu] at Cb
    have hd:decide (0<([]:List Int).length)=false:=rfl
    rw [hd] at Cb
    have hnext:∀ i,i<j+1->(!(s.ch (x.opn.getD i (0,0,0)).1).nums.isEmpty)=false:=fun i hi=>by
     rcases Nat.lt_or_ge i j with z|z
     ·exact hne i z
     ·have:i=j:=by omega
      subst this
      rw [hch,hnu]
      rfl
    have Hnext:=hide hnext
    clear k1 f1 hne o1 hg hxs hsz hww kA hB hB8 hnext hch hbk hbi hv2 e0 e1 e2 fz2 ne2
    generalize x.opn.getD j (0,0,0)=br at *
    generalize s.chans.length=ncl at *
    obtain⟨br1,br2,br3⟩:=br
    simp only at *
    go_wp2_with fail
    go_region
    all_goals
     go_wp2_with (go_at_call 162;refine (Cb.out _ (by exact KA.out.drew)).mono ?_;rintro e w2 ⟨rfl,hw2⟩;have hw2:=hw2.symm;subst hw2)
     go_roundw
     case rel=>exact⟨j+1,_,by omega,by go_num,KA.out.drew,FA.out.drew,Hnext.out⟩
     case measure=>simp [intOf];omega
   | cons n l =>
    rw [hnu] at Cb
    have hd:decide (0<(n :: l).length)=true:=by simp
    rw [hd] at Cb
    have hrk:=recv_kept hy hnu (hw y hym)
    have hll:l.length≤20000000000000:=by have:=hnl y hym;rw [hnu] at this;simp at this;omega
    have hrd:s.readF p=(s.receive k).2.follow p (x.opn.getD j (0,0,0)) n:=by
     unfold MS.readF
     rw [pr_get hp,findR_at hlt hne (by rw [hch,hnu];rfl)]
     dsimp only
     rw [hbk,hrk.1]
    obtain⟨x8,hx8⟩:∃ x8,(s.receive k).2.procs[p]?=some x8:=⟨_,List.getElem?_eq_getElem (by rw [hrk.2.2];exact hpl)⟩
    have Rc:=hide (fun w' h'=>mreceive_any (mb:=mb) (ρ:=junkR ρ' wr.heap.size) (C:=C) hy hv2 hnu (hw y hym) w' h' hll hu ho)
    have fo:∀ (w8:World) (ρ8:Nat->MR) (V8:MV),MsAt w8 mb ρ8 C V8 (s.receive k).2->MsGo V V8 (junkR ρ' wr.heap.size) ρ8 (wr.alloc (.cells #[.int .i64 (k:Int),.int .i64 (x.opn.getD j (0,0,0)).2.1,.int .i64 (x.opn.getD j (0,0,0)).2.2] 207)) w8->Calls Tryz.prog 163 #[.pointer (some ⟨pb,0,none⟩),.agg #[.int .i64 (k:Int),.int .i64 (x.opn.getD j (0,0,0)).2.1,.int .i64 (x.opn.getD j (0,0,0)).2.2],.int .i64 n] w8 fun e w'=>e=.returned (.tuple #[])∧MsPost mb C ρ V w (s.readF p) w':=by
     intro w8 ρ8 V8 k8 g8
     have e8:V8.pb.getD p 0=pb:=by rw [g8.ptr (by rw [hlen.1];exact hpl)];exact Hpb.out
     have c8:=mfollow_any hx8 (x.opn.getD j (0,0,0)) i hbi (by rw [hrk.2.1];exact hil) (by rw [hrk.2.1];exact hvl) n w8 k8
     unfold MV.ptr ptrB at c8
     rw [e8,hbk] at c8
     refine c8.mono ?_
     rintro e w9 ⟨he,ρ9,V9,k9,g9⟩
     refine⟨he,ρ9,V9,?_,(FA.out.trans g8).trans g9⟩
     rw [hrd]
     exact k9
    have Fo:=hide fo;have HB8:=hide hB8
    clear k1 f1 hne o1 hg hxs hsz hww kA hB hB8 hch hbi hv2 e0 e1 e2 fz2 ne2 fo hrd hrk hx8 hbk
    generalize x.opn.getD j (0,0,0)=br at *
    generalize s.chans.length=ncl at *
    generalize (s.receive k).2=s8 at *
    obtain⟨br1,br2,br3⟩:=br
    simp only at *
    go_wp2_with fail
    go_region
    all_goals
     go_wp2_with (go_at_call 162;refine (Cb.out _ (by exact KA.out.drew)).mono ?_;rintro e w2 ⟨rfl,hw2⟩;have hw2:=hw2.symm;subst hw2)
     go_region_with (first
      | (go_at_call 164;refine (Rc.out _ (by exact KA.out.drew.drew)).mono ?_;rintro e w8 ⟨rfl,ρ8,V8,k8,g8⟩;have g8':=(MsGo.refl V (junkR ρ' wr.heap.size) _).drew.drew.trans g8;obtain⟨m0,m1,m2⟩:=HB8.out _ _ _ g8';have Fo8:=hide (Fo.out _ _ _ k8 g8');clear k8 g8 g8')
      | (go_at_call 163;refine Fo8.out.mono ?_;rintro e w9 ⟨rfl,p9⟩;have P9:=hide p9;clear p9))
     all_goals
      go_wp2_with fail
      refine bodyPost_ret (results_none rfl _ _ _) rfl ?_
      exact⟨rfl,P9.out⟩
  ·have hno:(s.pr p).opn.find? (fun b=>!(s.ch b.1).nums.isEmpty)=none:=by rw [pr_get hp];exact findR_no (fun i hi=>hne i (by omega))
   have hrd:s.readF p=(x.opn.foldl (MS.setRd p) s).wait p 2:=by
    unfold MS.readF
    rw [hno,pr_get hp]
    rfl
   have d4':wr.cell? ⟨pb,4,none⟩=some (.slice oa x.opn.length oc):=by rw [<-Hpb.out,<-Hov.out];exact cell_at (k1.proc p x hp (fun x=>x)).1 4
   have K1:=hide k1;have F1:=hide f1;have Hrd:=hide hrd
   clear k1 f1 hne hno hrd
   go_wp2_with fail
   go_loopw [9,43] (fun _ y wr=>∃ (j:Nat) (ρ':Nat->MR),j≤x.opn.length∧y=.int .i64 j∧MsAt wr mb ρ' C V ((x.opn.take j).foldl (MS.setRd p) s)∧MsGo V V ρ ρ' w wr) (fun _ y _=>x.opn.length - (intOf y).toNat)
   case atStart=>exact⟨0,ρ',Nat.zero_le _,rfl,K1.out,F1.out⟩
   case round =>
    obtain⟨j,ρ2,hj,rfl,k1,f1⟩:=hrel
    have hlenS:=setRds_len p (x.opn.take j) s
    have hp1:((x.opn.take j).foldl (MS.setRd p) s).procs[p]?=some x:=by rw [hlenS.2.1];exact hp
    have o1:=k1.opn p x hp1 (fun x=>x)
    by_cases hlt:j<x.opn.length
    ·obtain⟨g,cap,cur,e1,hg,hn,hcc,hsz,hxs⟩:=row_pos o1.1 (by omega)
     have hov2:=Hov.out
     rw [hov2] at e1
     simp only [Value.slice.injEq,true_and] at e1
     obtain⟨rfl,rfl⟩:=e1
     have hww:=waysV_at x.opn j hlt
     have a0:wr.cell? ⟨g,j * 3,none⟩=some (.int .i64 (x.opn.getD j (0,0,0)).1):=ownsRow_cell hg hxs hww.1
     have a1:wr.cell? ⟨g,j * 3+1,none⟩=some (.int .i64 (x.opn.getD j (0,0,0)).2.1):=ownsRow_cell hg hxs hww.2.1
     have a2:wr.cell? ⟨g,j * 3+2,none⟩=some (.int .i64 (x.opn.getD j (0,0,0)).2.2):=ownsRow_cell hg hxs hww.2.2
     obtain⟨⟨k,hbk,hkl⟩,_⟩:=hb (x.opn.getD j (0,0,0)) (by rw [getD_lt _ _ _ hlt];exact List.getElem_mem hlt)
     have hst:(x.opn.take (j+1)).foldl (MS.setRd p) s=MS.setRd p ((x.opn.take j).foldl (MS.setRd p) s) (x.opn.getD j (0,0,0)):=by
      rw [List.take_add_one,List.getElem?_eq_getElem hlt,List.foldl_append,getD_lt _ _ _ hlt]
      rfl
     have hkl2:k<((x.opn.take j).foldl (MS.setRd p) s).chans.length:=by rw [hlenS.1];exact hkl
     obtain⟨y,hy⟩:∃ y,((x.opn.take j).foldl (MS.setRd p) s).chans[k]?=some y:=⟨_,List.getElem?_eq_getElem hkl2⟩
     rw [setRd_chans _ p k y hy _ hbk] at hst
     have hcl:((x.opn.take j).foldl (MS.setRd p) s).chans.length≤1000000000000:=by rw [hlenS.1];exact hcl0
     rw [hbk] at a0
     generalize x.opn.getD j (0,0,0)=br at *
     generalize (x.opn.take j).foldl (MS.setRd p) s=S at *
     have kA:=k1.alloc (.cells #[.int .i64 (k:Int),.int .i64 br.2.1,.int .i64 br.2.2] 207)
     have b0:(wr.alloc (.cells #[.int .i64 (k:Int),.int .i64 br.2.1,.int .i64 br.2.2] 207)).cell? ⟨wr.heap.size,0,none⟩=some (.int .i64 (k:Int)):=cell_at (at_new wr _) 0
     obtain⟨g2,cap2,hv2,h21,h22,c3,e0,e1,e2,fz2,ne2⟩:=mchan_at kA.1 hy
     have fin:=mchan_set kA.1 hy hv2 1 (by omega) (.pointer (some ⟨pb,0,none⟩)) (x':={ y with rd:=some p }) (by unfold MV.chan MV.ptrO;rw [Option.map_some,Hpb.out];rfl) rfl
     rw [<-hst] at fin
     have Fin:=hide fin.1.drew;have F2:=hide ((f1.trans kA.2).trans fin.2.drew)
     unfold MV.ptrO at e1
     clear k1 f1 o1 hg hxs hsz hww hst kA fin hbk hp1 hlenS hy e0 e2 hv2 ne2
     generalize y.rd.map (fun i=>(⟨V.pb.getD i 0,0,none⟩:Addr))=ra at *
     generalize S.chans.length=ncl at *
     generalize br.2.1=q1 at *
     generalize br.2.2=q2 at *
     go_wp2_with fail
     go_region
     all_goals
      go_wp2_with fail
      go_roundw
      case rel=>exact⟨j+1,ρ2,by omega,by go_num,Fin.out,F2.out⟩
      case measure=>simp [intOf];omega
    ·have e:x.opn.take j=x.opn:=List.take_of_length_le (by omega)
     rw [e] at k1 hlenS hp1
     have Wt:=mwait_any (by rw [hlenS.2.2];exact hc) hp1 2 (.inr rfl) wr k1
     have Wt2:Calls Tryz.prog 160 #[.pointer (some ⟨mb,0,none⟩),toldV 2 (V.pb.getD p 0)] wr fun e w'=>e=.returned (.tuple #[])∧MsPost mb C ρ V w (s.readF p) w':=by
      refine Wt.mono ?_
      rintro e w9 ⟨he,k9,g9⟩
      refine⟨he,_,_,?_,f1.trans g9⟩
      rw [Hrd.out]
      exact k9
     rw [Hpb.out] at Wt2
     have et:toldV 2 pb=.func (.func 165) #[.pointer (some ⟨pb,0,none⟩)] #[]:=rfl
     rw [et] at Wt2
     have WT:=hide Wt2
     clear k1 f1 o1 Wt Wt2 e et
     go_wp2_with (go_at_call 160;refine WT.out.mono ?_;rintro e w9 ⟨rfl,p9⟩;have P9:=hide p9;clear p9)
     go_end0
     exact⟨rfl,P9.out⟩
end
end Go.Proofs.YtnhidaamfnjdjaaGreatDoor
namespace Go.Proofs.YtnhidaamfnjdjaaGreatDoor
open Go.RowKit Go.Maps
def fnOf (k:Int):Nat :=
 if k=0 then 83
 else if k=1 then 84
 else if k=2 then 85
 else if k=3 then 86
 else if k=4 then 87
 else if k=5 then 88
 else if k=6 then 89
 else if k=7 then 90
 else if k=8 then 91
 else if k=9 then 92
 else if k=10 then 93
 else if k=11 then 94
 else if k=12 then 95
 else if k=13 then 96
 else if k=14 then 97
 else if k=15 then 98
 else if k=16 then 99
 else if k=17 then 100
 else if k=18 then 101
 else if k=19 then 102
 else if k=20 then 103
 else if k=21 then 104
 else if k=22 then 105
 else if k=23 then 106
 else 107
theorem inB_nat {a:Int} {n:Nat} (h:inB a n=true):∃ i:Nat,a=i∧i<n:=by
 unfold inB at h
 simp only [Bool.and_eq_true,decide_eq_true_eq,Nat.blt_eq] at h
 exact⟨a.toNat,by omega,h.2⟩
theorem okWays_at {s:MS} {o:List (Int×Int×Int)} (h:okWays s o=true):∀ br∈o,(∃ k:Nat,br.1=k∧k<s.chans.length)∧∃ i:Nat,br.2.1=i∧i<s.vars.length:=by
 intro br hbr
 unfold okWays at h
 have:=List.all_eq_true.1 h br hbr
 rw [Bool.and_eq_true] at this
 exact⟨inB_nat this.1,inB_nat this.2⟩
theorem okLens_at {s:MS} (h:okLens s=true):s.urg.length<900000000000∧s.oth.length<900000000000∧s.stack.length<900000000000∧s.chans.length<900000000000∧s.vars.length<900000000000∧s.out.length<900000000000∧s.asleep.length<900000000000:=by
 unfold okLens at h
 simp only [Bool.and_eq_true,Nat.blt_eq] at h
 obtain⟨⟨⟨⟨⟨⟨h1,h2⟩,h3⟩,h4⟩,h5⟩,h6⟩,h7⟩:=h
 exact⟨h1,h2,h3,h4,h5,h6,h7⟩
theorem okO_at {o:Option Nat} {n:Nat} (h:okO o n=true):∀ i,o=some i->i<n:=by
 intro i hi
 subst hi
 have h:Nat.blt i n=true:=h
 rwa [Nat.blt_eq] at h
theorem okInR_at {s:MS} (h:okInR s=true):s.InR:=by
 unfold okInR at h
 simp only [Bool.and_eq_true,List.all_eq_true,Nat.blt_eq] at h
 obtain⟨⟨⟨⟨⟨h1,h2⟩,h3⟩,h4⟩,h5⟩,h6⟩:=h
 exact⟨h1,h2,h3,fun x hx=>okO_at (h4 x hx).1,fun x hx=>okO_at (h4 x hx).2,okO_at h5,fun x hx=>okO_at (h6 x hx)⟩
theorem okWoken_at {s:MS} {q:Nat} (h:okWoken s q=true):∃ y,s.procs[q]?=some y∧y.told=1:=by
 unfold okWoken at h
 simp only [Bool.and_eq_true,Nat.blt_eq] at h
 have hq:s.procs[q]?=some s.procs[q]:=List.getElem?_eq_getElem h.1
 exact⟨_,hq,by rw [<-pr_get hq];exact Nat.eq_of_beq_eq_true h.2⟩
theorem st1 {s:MS} (h:1≤s.stack.length):∃ l n,s.stack=l++[n]∧s.top=n∧l.length+1=s.stack.length:=by
 have hne:s.stack≠[]:=by intro e;rw [e] at h;simp at h
 refine⟨s.stack.dropLast,s.stack.getLast hne,(List.dropLast_concat_getLast hne).symm,?_,?_⟩
 ·unfold MS.top
  rw [List.getLastD_eq_getLast?,List.getLast?_eq_some_getLast hne]
  rfl
 ·rw [List.length_dropLast];omega
theorem st2 {s:MS} (h:2≤s.stack.length):∃ l a b,s.stack=l++[a,b]∧s.top=b∧s.pop.top=a∧l.length+2=s.stack.length:=by
 obtain⟨l,b,h1,h2,h3⟩:=st1 (s:=s) (by omega)
 have hp:s.pop.stack=l:=by unfold MS.pop;rw [h1];simp
 obtain⟨l2,a,k1,k2,k3⟩:=st1 (s:=s.pop) (by rw [hp];omega)
 rw [hp] at k1 k3
 refine⟨l2,a,b,?_,h2,k2,by omega⟩
 rw [h1,k1]
 simp
section
variable {mb : Nat} {ρ : Nat → MR} {C : CM} {V : MV} {s : MS}
def SleepH (mb:Nat) (C:CM):Prop:=∀ (ρ:Nat->MR) (V:MV) (s:MS) (p:Nat) (x:PPr) (a:Int) (w:World),MsAt w mb ρ C V s->s.cur=some p->s.procs[p]?=some x->okX false C.br.length s p 17 a=true->Calls Tryz.prog 100 #[.pointer (some ⟨mb,0,none⟩),.int .i64 a] w fun e w'=>e=.returned (.tuple #[])∧MsPost mb C ρ V w (s.exec C.br p 17 a) w'
theorem mexec_any {ns : Bool} {p : Nat} {x : PPr} (hc : s.cur = some p) (hp : s.procs[p]? = some x) (k a : Int) (hk0 : 0 ≤ k) (hk1 : k ≤ 24) (hok : okX ns C.br.length s p k a = true) (hbr : C.br.length ≤ 1000000) (SL : ns = false → SleepH mb C) (w : World) (h : MsAt w mb ρ C V s) :
    Calls Tryz.prog (fnOf k) #[.pointer (some ⟨mb, 0, none⟩), .int .i64 a] w fun e w' => e = .returned (.tuple #[]) ∧ MsPost mb C ρ V w (s.exec C.br p k a) w' := by
  have hpr := pr_get hp
  have hall := hok
  unfold okX at hok
  rw [Bool.and_eq_true, Bool.and_eq_true] at hok
  obtain ⟨⟨hl, _⟩, hok⟩ := hok
  obtain ⟨l1, l2, l3, l4, l5, l6, l7⟩ := okLens_at hl
  have cases : k = 0 ∨ k = 1 ∨ k = 2 ∨ k = 3 ∨ k = 4 ∨ k = 5 ∨ k = 6 ∨ k = 7 ∨ k = 8 ∨ k = 9 ∨ k = 10 ∨ k = 11 ∨ k = 12 ∨ k = 13 ∨ k = 14 ∨ k = 15 ∨ k = 16 ∨ k = 17 ∨ k = 18 ∨ k = 19 ∨ k = 20 ∨ k = 21 ∨ k = 22 ∨ k = 23 ∨ k = 24 := by omega
  rcases cases with rfl | rfl | rfl | rfl | rfl | rfl | rfl | rfl | rfl | rfl | rfl | rfl | rfl | rfl | rfl | rfl | rfl | rfl | rfl | rfl | rfl | rfl | rfl | rfl | rfl
  · exact mstep_any a w h
  · exact mput_any a w h (by omega)
  · obtain ⟨i, rfl, hi⟩ := inB_nat (a := a) (n := s.vars.length) hok
    exact mvariable_any i hi (by omega) w h (by omega)
  · obtain ⟨l, u, v, hs, h1, h2, h3⟩ := st2 (s := s) (Nat.le_of_ble_eq_true hok)
    have e : s.exec C.br p 3 a = s.two fun x y s => s.put (w64 (x + y)) := rfl
    unfold MS.two at e
    rw [h1, h2] at e
    rw [e]
    exact madd_any l u v hs a w h (by omega)
  · obtain ⟨l, u, v, hs, h1, h2, h3⟩ := st2 (s := s) (Nat.le_of_ble_eq_true hok)
    have e : s.exec C.br p 4 a = s.two fun x y s => s.put (w64 (x - y)) := rfl
    unfold MS.two at e
    rw [h1, h2] at e
    rw [e]
    exact msubtract_any l u v hs a w h (by omega)
  · obtain ⟨l, u, v, hs, h1, h2, h3⟩ := st2 (s := s) (Nat.le_of_ble_eq_true hok)
    have e : s.exec C.br p 5 a = s.two fun x y s => s.put (w64 (x * y)) := rfl
    unfold MS.two at e
    rw [h1, h2] at e
    rw [e]
    exact mmultiply_any l u v hs a w h (by omega)
  · obtain ⟨l, u, v, hs, h1, h2, h3⟩ := st2 (s := s) (Nat.le_of_ble_eq_true hok)
    have e : s.exec C.br p 6 a = s.two fun x y s => if y = 0 then s.fault else s.put (w64 (x.tdiv y)) := rfl
    unfold MS.two at e
    rw [h1, h2] at e
    rw [e]
    exact mdivide_any l u v hs a w h (by omega)
  · obtain ⟨l, u, v, hs, h1, h2, h3⟩ := st2 (s := s) (Nat.le_of_ble_eq_true hok)
    have e : s.exec C.br p 7 a = s.two fun x y s => if y = 0 then s.fault else s.put (x.tmod y) := rfl
    unfold MS.two at e
    rw [h1, h2] at e
    rw [e]
    exact mremainder_any l u v hs a w h (by omega)
  · obtain ⟨l, u, v, hs, h1, h2, h3⟩ := st2 (s := s) (Nat.le_of_ble_eq_true hok)
    have e : s.exec C.br p 8 a = s.two fun x y s => s.put (if x = y then 1 else 0) := rfl
    unfold MS.two at e
    rw [h1, h2] at e
    rw [e]
    exact mequal_any l u v hs a w h (by omega)
  · obtain ⟨l, u, v, hs, h1, h2, h3⟩ := st2 (s := s) (Nat.le_of_ble_eq_true hok)
    have e : s.exec C.br p 9 a = s.two fun x y s => s.put (if x < y then 1 else 0) := rfl
    unfold MS.two at e
    rw [h1, h2] at e
    rw [e]
    exact mless_any l u v hs a w h (by omega)
  · obtain ⟨l, u, v, hs, h1, h2, h3⟩ := st2 (s := s) (Nat.le_of_ble_eq_true hok)
    have e : s.exec C.br p 10 a = s.two fun x y s => s.put (if x > y then 1 else 0) := rfl
    unfold MS.two at e
    rw [h1, h2] at e
    rw [e]
    exact mmore_any l u v hs a w h (by omega)
  · obtain ⟨i, rfl, hi⟩ := inB_nat (a := a) (n := s.vars.length) hok
    exact mzero_any i hi (by omega) w h
  · have hok : (inB a s.vars.length && Nat.ble 1 s.stack.length) = true := hok
    rw [Bool.and_eq_true] at hok
    obtain ⟨i, rfl, hi⟩ := inB_nat hok.1
    obtain ⟨l, n, hs, h1, h2⟩ := st1 (s := s) (Nat.le_of_ble_eq_true hok.2)
    have e : s.exec C.br p 12 (i : Int) = { s.pop with vars := s.vars.set i s.top } := rfl
    rw [e, h1]
    exact mstore_any l n hs i hi (by omega) w h (by omega)
  · obtain ⟨l, n, hs, h1, h2⟩ := st1 (s := s) (Nat.le_of_ble_eq_true hok)
    have e : s.exec C.br p 13 a = { s.pop with out := s.out ++ [s.top] } := rfl
    rw [e, h1]
    exact mwriteOut_any l n hs a w h (by omega) (by omega)
  · have hok : (inB a s.chans.length && Nat.ble 1 s.stack.length && Nat.blt (s.ch a).nums.length 19000000000000 && (match (s.ch a).rd with | none => true | some q => Nat.blt q s.procs.length && Nat.beq (s.pr q).told 2 && okWays s (s.pr q).opn && Nat.blt (s.pr q).opn.length 900000000000)) = true := hok
    rw [Bool.and_eq_true, Bool.and_eq_true, Bool.and_eq_true] at hok
    obtain ⟨⟨⟨hi, hst⟩, hnl⟩, hrd⟩ := hok
    obtain ⟨c, rfl, hcl⟩ := inB_nat hi
    obtain ⟨l, n, hs, h1, h2⟩ := st1 (s := s) (Nat.le_of_ble_eq_true hst)
    obtain ⟨y, hy⟩ : ∃ y, s.chans[c]? = some y := ⟨_, List.getElem?_eq_getElem hcl⟩
    rw [ch_get hy] at hnl hrd
    rw [Nat.blt_eq] at hnl
    have e : s.exec C.br p 14 (c : Int) = match s.pop.send c s.top with | (true, s1) => s1 | (false, s1) => (s1.setCh c { s1.ch c with wr := some p }).wait p 1 := rfl
    have hy1 : s.pop.chans[c]? = some y := hy
    rw [e, h1]
    cases hr : y.rd with
    | none =>
      have es := send_none hy1 hr n
      have := mwrite_wait hs (by omega) hy hr hc hp w h (by omega) (by omega)
      rw [es] at this ⊢
      exact this
    | some q =>
      rw [hr] at hrd
      dsimp only at hrd
      rw [Bool.and_eq_true, Bool.and_eq_true, Bool.and_eq_true, Nat.blt_eq, Nat.blt_eq] at hrd
      obtain ⟨⟨⟨hq, ht⟩, hw⟩, hol⟩ := hrd
      have hqe : s.procs[q]? = some s.procs[q] := List.getElem?_eq_getElem hq
      have ht := Nat.eq_of_beq_eq_true ht
      rw [pr_get hqe] at ht hw hol
      have es := send_some hy1 hr (s := s.pop) hqe ht n
      have := mwrite_read hs (by omega) hy hr hqe ht (okWays_at hw) w h (by omega) (by omega) (by omega) (by omega) (by omega)
      rw [es] at this ⊢
      exact this
  · have hok : (inB a C.br.length && Nat.blt (s.pr p).opn.length 900000) = true := hok
    rw [Bool.and_eq_true, hpr, Nat.blt_eq] at hok
    obtain ⟨i, rfl, hi⟩ := inB_nat hok.1
    have e : s.exec C.br p 15 (i : Int) = s.setPr p { s.pr p with opn := (s.pr p).opn ++ [C.br.getD i (0, 0, 0)] } := rfl
    rw [e, hpr]
    exact mopen_any hc hp hi hbr w h (by omega)
  · have hok : (okWays s (s.pr p).opn && Nat.blt (s.pr p).opn.length 900000000000 && s.chans.all (fun y => okWr s y.wr && Nat.blt y.nums.length 19000000000000)) = true := hok
    rw [Bool.and_eq_true, Bool.and_eq_true, hpr, Nat.blt_eq, List.all_eq_true] at hok
    obtain ⟨⟨h1, h2⟩, h3⟩ := hok
    have e : s.exec C.br p 16 a = s.readF p := rfl
    rw [e]
    refine mread_any hc hp (okWays_at h1) (fun y hy q hq => ?_) (fun y hy => ?_) a w h (by omega) (by omega) (by omega) (by omega) (by omega)
    · have := h3 y hy
      rw [Bool.and_eq_true, hq] at this
      exact okWoken_at this.1
    · have := h3 y hy
      rw [Bool.and_eq_true, Nat.blt_eq] at this
      omega
  · cases ns with
    | true => have hok : (!true && Nat.ble 1 s.stack.length && okInR s && decide (0 ≤ s.time) && decide (s.time < 9000000000000000000) && decide (0 ≤ s.slept) && decide (s.slept < 1000000000000)) = true := hok
              simp at hok
    | false => exact SL rfl ρ V s p x a w h hc hp hall
  · obtain ⟨l, n, hs, h1, h2⟩ := st1 (s := s) (Nat.le_of_ble_eq_true hok)
    have e : s.exec C.br p 18 a = (if s.top = 0 then s.pop.jump p a else s.pop) := rfl
    rw [e, h1]
    exact munless_any hc hp l n hs a w h (by omega)
  · refine (mjump_any hc hp a w h).mono ?_
    rintro e w' ⟨he, k1, f1⟩
    exact ⟨he, _, _, k1, f1⟩
  · exact mhold_any a w h
  · have hok : (okInR s && okBelow s p) = true := hok
    rw [Bool.and_eq_true] at hok
    obtain ⟨h1, h2⟩ := hok
    unfold okBelow at h2
    rw [hpr, Bool.and_eq_true, decide_eq_true_eq, decide_eq_true_eq] at h2
    have e : s.exec C.br p 21 a = s.beginNew p a (s.pr p).urg := rfl
    rw [e, hpr]
    exact mbegin_any hc hp (okInR_at h1) a w h (by omega) h2.1 (by omega) (by omega)
  · have hok : (okInR s && okBelow s p) = true := hok
    rw [Bool.and_eq_true] at hok
    obtain ⟨h1, h2⟩ := hok
    unfold okBelow at h2
    rw [hpr, Bool.and_eq_true, decide_eq_true_eq, decide_eq_true_eq] at h2
    exact mbeginUrgent_any hc hp (okInR_at h1) a w h (by omega) h2.1 (by omega) (by omega)
  · have e : s.exec C.br p 23 a = (if (s.pr p).below > 0 then (s.jump p a).wait p 1 else s.jump p a) := rfl
    rw [e, hpr]
    exact mjoin_any hc hp a w h
  · have hok : (match (s.pr p).above with | none => true | some q => Nat.blt q s.procs.length && decide (0 < (s.pr q).below) && decide ((s.pr q).below < 900000000000) && (if (s.pr q).below = 1 then Nat.beq (s.pr q).told 1 else true)) = true := hok
    have e : s.exec C.br p 24 a = (match (s.pr p).above with
      | none => { s.leave with ended := true }
      | some q =>
        let s1 := s.leave.setPr q { s.pr q with below := (s.pr q).below - 1 }
        if (s1.pr q).below = 0 then s1.tell q 0 0 else s1) := rfl
    rw [e]
    rw [hpr] at hok ⊢
    cases ha : x.above with
    | none => exact mend_none hc hp ha a w h
    | some q =>
      rw [ha] at hok
      dsimp only at hok ⊢
      rw [Bool.and_eq_true, Bool.and_eq_true, Bool.and_eq_true, Nat.blt_eq, decide_eq_true_eq, decide_eq_true_eq] at hok
      obtain ⟨⟨⟨hq, h1⟩, h2⟩, h3⟩ := hok
      have hqe : s.procs[q]? = some s.procs[q] := List.getElem?_eq_getElem hq
      rw [pr_get hqe] at h1 h2 h3 ⊢
      have hq1 : (s.leave.setPr q { s.procs[q] with below := s.procs[q].below - 1 }).procs[q]? = some { s.procs[q] with below := s.procs[q].below - 1 } := by
        show (s.procs.set q _)[q]? = _
        rw [List.getElem?_set_self hq]
      have hyt : s.procs[q].below = 1 → s.procs[q].told = 1 := fun hb => by
        rw [if_pos hb] at h3
        exact Nat.eq_of_beq_eq_true h3
      have := mend_some hc hp ha hqe h1 (by omega) hyt a w h (by omega) (by omega)
      rw [pr_get hq1]
      by_cases hb : s.procs[q].below = 1
      · rw [if_pos hb] at this
        rw [if_pos (by show s.procs[q].below - 1 = 0; omega), tell_one hq1 (hyt hb)]
        exact this
      · rw [if_neg hb] at this
        rw [if_neg (by show ¬ s.procs[q].below - 1 = 0; omega)]
        exact this
end
end Go.Proofs.YtnhidaamfnjdjaaGreatDoor
namespace Go.Proofs.YtnhidaamfnjdjaaGreatDoor
open Go.RowKit Go.Maps
def tabV:Array Value:=#[.func (.func 83) #[] #[],.func (.func 84) #[] #[],.func (.func 85) #[] #[],.func (.func 86) #[] #[],.func (.func 87) #[] #[],.func (.func 88) #[] #[],.func (.func 89) #[] #[],.func (.func 90) #[] #[],.func (.func 91) #[] #[],.func (.func 92) #[] #[],.func (.func 93) #[] #[],.func (.func 94) #[] #[],.func (.func 95) #[] #[],.func (.func 96) #[] #[],.func (.func 97) #[] #[],.func (.func 98) #[] #[],.func (.func 99) #[] #[],.func (.func 100) #[] #[],.func (.func 101) #[] #[],.func (.func 102) #[] #[],.func (.func 103) #[] #[],.func (.func 104) #[] #[],.func (.func 105) #[] #[],.func (.func 106) #[] #[],.func (.func 107) #[] #[]]
theorem tabInfo:(Tryz.prog.info? 93).map (·.size)=some tabV.size:=by kernel_rfl
theorem tabOne:tabV.all (·.oneCell')=true:=by kernel_rfl
theorem wpList_store_new {P:Program} {w:World} {ops:Array Oper} {rest:List Oper} {op:Oper} {a:Act} {Q:Exit->Act->World->Prop} {c c':Array Value} (hgd:op.guard=none) (ty:TypeId) (x y:Operand) (ho:op.op=.store ty x y)
  (hx:a.eval x=.pointer (some ⟨w.heap.size,0,none⟩)) (hy:a.eval y=.agg c') (hi:(P.info? ty).map (·.size)=some c'.size) (hs:c.size=c'.size) (h1:c'.all (·.oneCell')=true)
  (h:wpList P ops Q rest (a.put op.dst undef) (w.alloc (.cells c' ty))):wpList P ops Q (op :: rest) a (w.alloc (.cells c ty)):=by
 refine wpList_plain hgd fun K hK=>?_
 unfold Oper.wp execOp
 simp only [ho,hx,hy,Sem.run_bind,Sem.run_pure,Result.andThen_ok,run_storeAt_new w ty c c' hi hs h1]
 exact hK _ _ h
theorem results_cell {P:Program} {fn:Func} {tmps:Array Value} {w:World} {v:Value} {a:Nat} {t:TypeId} {ad:Addr} (h:fn.results=#[.cell a t]) (h1:tmps[a]?=some (.pointer (some ad))) (h2:(loadVar t ad).run P w=.ok v w):(results fn tmps).run P w=.ok v w:=by
 simp [results,h,h1,asAddr,h2]
set_option maxRecDepth 20000 in
set_option maxHeartbeats 4000000 in
theorem actions_any (w:World):Calls Tryz.prog 56 #[] w fun e w'=>e=.returned (.agg tabV)∧w'=w.alloc (.cells tabV 93):=by
 go_enter Tryz.func56,Tryz.ntmps56
 go_wp2_with (refine wpList_store_new (c':=tabV) rfl 93 (.tmp 0) (.tmp 1) rfl rfl rfl tabInfo rfl tabOne ?_)
 exact bodyPost_ret (v:=.agg tabV) (results_cell Tryz.results56 rfl (run_loadVar_new w 93 tabV 25 92 Tryz.underlying93 tabInfo)) rfl ⟨rfl,rfl⟩
end Go.Proofs.YtnhidaamfnjdjaaGreatDoor
namespace Go.Proofs.YtnhidaamfnjdjaaGreatDoor
open Go.RowKit Go.Maps
theorem tab_at (k:Nat) (h:k<25):tabV[k]?=some (.func (.func (fnOf k)) #[] #[]):=by
 have cases:k=0∨k=1∨k=2∨k=3∨k=4∨k=5∨k=6∨k=7∨k=8∨k=9∨k=10∨k=11∨k=12∨k=13∨k=14∨k=15∨k=16∨k=17∨k=18∨k=19∨k=20∨k=21∨k=22∨k=23∨k=24:=by omega
 rcases cases with rfl|rfl|rfl|rfl|rfl|rfl|rfl|rfl|rfl|rfl|rfl|rfl|rfl|rfl|rfl|rfl|rfl|rfl|rfl|rfl|rfl|rfl|rfl|rfl|rfl <;> rfl
theorem exists_least {P:Nat->Prop}:∀ n,P n->∃ n,P n∧∀ m,P m->n≤m:=by
 intro n
 induction n using Nat.strongRecOn with
 | _ n ih =>
  intro hn
  by_cases h:∃ m,P m∧m<n
  ·obtain⟨m,hm,hlt⟩:=h
   exact ih m hlt hm
  ·refine⟨n,hn,fun m hm=>?_⟩
   rcases Nat.lt_or_ge m n with z|z
   ·exact absurd ⟨m,hm,z⟩ h
   ·exact z
open Classical in
noncomputable def leastN (P:Nat->Prop):Nat:=if h:∃ n,P n∧∀ m,P m->n≤m then h.choose else 0
theorem leastN_spec {P:Nat->Prop} (h:∃ n,P n):P (leastN P)∧∀ m,P m->leastN P≤m:=by
 obtain⟨n,hn⟩:=h
 have h:=exists_least n hn
 unfold leastN
 rw [dif_pos h]
 exact h.choose_spec
section
variable {ns : Bool} {code : List (Int × Int)} {br : List (Int × Int × Int)} {steps d : Int} {s : MS} {f : Nat} {r : Int × MS}
theorem runC_none (h:runC ns code br steps f d s=some r) (hc:s.cur=none) :
  ∃ f',f=f'+1∧okLens s=true∧((¬ d<steps∧r=(d,s))∨(d<steps∧okMake ns s=true∧((s.makeCurrent.cur=none∧r=(d,s.makeCurrent))∨∃ p,s.makeCurrent.cur=some p∧runC ns code br steps f' d s.makeCurrent=some r))):=by
 cases f with
 | zero=>cases h
 | succ f' =>
  refine⟨f',rfl,?_⟩
  unfold runC turnC at h
  rw [hc] at h
  by_cases hl:okLens s=false
  ·rw [if_pos hl] at h
   cases h
  ·rw [if_neg hl] at h
   refine⟨by simpa using hl,?_⟩
   dsimp only at h
   by_cases hd:d<steps
   ·rw [if_pos hd] at h
    refine .inr ⟨hd,?_⟩
    by_cases hm:okMake ns s=true
    ·rw [if_pos hm] at h
     refine⟨hm,?_⟩
     cases hc2:s.makeCurrent.cur with
     | none =>
      rw [hc2] at h
      exact .inl ⟨rfl,(Option.some.inj h).symm⟩
     | some p =>
      rw [hc2] at h
      exact .inr ⟨p,rfl,h⟩
    ·rw [if_neg hm] at h
     cases h
   ·rw [if_neg hd] at h
    exact .inl ⟨hd,(Option.some.inj h).symm⟩
theorem runC_some {p:Nat} (h:runC ns code br steps f d s=some r) (hc:s.cur=some p) :
    ∃ (f':Nat) (x:PPr) (a k:Nat) (i:Int),f=f'+1∧okLens s=true∧s.procs[p]?=some x∧x.at_=a∧a<code.length∧(code.getD a (0,0)).2=i ∧
      (((code.getD a (0,0)).1=0∧steps≤d∧r=(d,s)) ∨
       ((code.getD a (0,0)).1=k∧¬ (k=0∧steps≤d)∧k<25∧okX ns br.length (s.setPr p { x with at_:=x.at_+1 }) p k i=true∧runC ns code br steps f' (if k=0 then d+1 else d) ((s.setPr p { x with at_:=x.at_+1 }).exec br p k i)=some r)):=by
  cases f with
  | zero=>cases h
  | succ f' =>
    unfold runC turnC at h
    rw [hc] at h
    by_cases hl:okLens s=false
    · rw [if_pos hl] at h
      cases h
    · rw [if_neg hl] at h
      dsimp only at h
      by_cases hb:inB (s.pr p).at_ code.length=true∧Nat.blt p s.procs.length=true
      · rw [if_pos hb] at h
        obtain⟨a,ha,hal⟩:=inB_nat hb.1
        have hpl:p<s.procs.length:=by have:=hb.2;rwa [Nat.blt_eq] at this
        have hp:s.procs[p]?=some s.procs[p]:=List.getElem?_eq_getElem hpl
        rw [pr_get hp] at h ha
        rw [ha,Int.toNat_natCast] at h
        by_cases hi:(code.getD a (0,0)).1=0∧steps≤d
        · rw [if_pos hi] at h
          exact⟨f',_,a,0,_,rfl,by simpa using hl,hp,ha,hal,rfl,.inl ⟨hi.1,hi.2,(Option.some.inj h).symm⟩⟩
        · rw [if_neg hi] at h
          split at h
          · rename_i q he
            split at he
            · rename_i hk
              injection he with he
              injection he with he
              subst he
              simp only [Bool.and_eq_true,decide_eq_true_eq] at hk
              obtain⟨⟨h0,h24⟩,hok⟩:=hk
              have hkn:(code.getD a (0,0)).1=((code.getD a (0,0)).1.toNat:Int):=by omega
              refine⟨f',_,a,(code.getD a (0,0)).1.toNat,_,rfl,by simpa using hl,hp,ha,hal,rfl,.inr ⟨hkn,fun hh=>hi ⟨by omega,hh.2⟩,by omega,?_,?_⟩⟩
              · rw [<-hkn,ha];exact hok
              · rw [<-hkn,ha]
                have e:((code.getD a (0,0)).1.toNat=0)↔((code.getD a (0,0)).1=0):=by omega
                simp only [e]
                exact h
            · cases he
          · rename_i q he
            split at he
            · cases he
            · cases he
          · cases h
      · rw [if_neg hb] at h
        cases h
end
end Go.Proofs.YtnhidaamfnjdjaaGreatDoor
namespace Go.Proofs.YtnhidaamfnjdjaaGreatDoor
open Go.RowKit Go.Maps
section
variable {mb : Nat} {ρ : Nat → MR} {C : CM} {V : MV} {s : MS}
theorem next_len (s:MS):s.urg.length≤s.next.urg.length+1∧s.oth.length≤s.next.oth.length+1:=by
 unfold MS.next
 cases hu:s.urg with
 | cons p l=>exact⟨Nat.le_refl _,Nat.le_succ _⟩
 | nil=>cases ho:s.oth with
  | cons p l=>exact⟨by simp,Nat.le_refl _⟩
  | nil=>exact⟨by simp,by simp⟩
def WakeH (mb:Nat) (C:CM):Prop:=∀ (ρ:Nat->MR) (V:MV) (s:MS) (w:World),MsAt w mb ρ C V s->okLens s=true->okInR s=true->s.urg=[]->s.oth=[]->s.asleep.all (fun x=>okWoken s x.2.2)=true->okOnce s.asleep=true->Calls Tryz.prog 109 #[.pointer (some ⟨mb,0,none⟩)] w fun e w'=>e=.returned (.tuple #[])∧MsPost mb C ρ V w s.wakeNext w'
theorem mmake_ok {ns:Bool} (hc:s.cur=none) (hok:okMake ns s=true) (WK:ns=false->WakeH mb C) (w:World) (h:MsAt w mb ρ C V s) :
  Calls Tryz.prog 57 #[.pointer (some ⟨mb,0,none⟩)] w fun e w'=>e=.returned (.bool s.makeCurrent.cur.isSome)∧MsPost mb C ρ V w s.makeCurrent w':=by
 unfold okMake at hok
 rw [Bool.and_eq_true,Bool.and_eq_true,Bool.and_eq_true] at hok
 obtain⟨⟨⟨hl,hr⟩,ha⟩,hl2⟩:=hok
 obtain⟨l1,l2,l3,l4,l5,l6,l7⟩:=okLens_at hl
 rcases hf:s.faulty with _|_
 ·obtain⟨m1,m2,m3,m4,m5,m6,m7⟩:=okLens_at hl2
  rw [makeCurrent_is s hf] at m1 m2
  refine mmake_any hc w h (fun hu ho=>?_) (by omega) (by omega) (fun hu ho=>?_) (fun hu ho=>?_)
  ·cases hs:s.asleep with
   | nil=>exact mwakeNext_none hs w h
   | cons x l =>
    rw [hs] at ha
    dsimp only at ha
    rw [Bool.and_eq_true,Bool.and_eq_true] at ha
    refine WK (by simpa using ha.1.1) ρ V s w h hl hr hu ho (by rw [hs];exact ha.1.2) (by rw [hs];exact ha.2)
  ·rw [if_pos ⟨hu,ho⟩] at m1
   have:=(next_len s.wakeNext).1
   omega
  ·rw [if_pos ⟨hu,ho⟩] at m2
   have:=(next_len s.wakeNext).2
   omega
 ·exact mmake_faulty hf hc w h
end
end Go.Proofs.YtnhidaamfnjdjaaGreatDoor
namespace Go.Proofs.YtnhidaamfnjdjaaGreatDoor
open Go.RowKit Go.Maps
section
variable {mb : Nat} {ρ : Nat → MR} {C : CM} {V : MV} {s : MS}
theorem code_at (l:List (Int×Int)):∀ (a:Nat),a<l.length->(codeV l)[a * 2]?=some (.int .i64 (l.getD a (0,0)).1)∧(codeV l)[a * 2+1]?=some (.int .i64 (l.getD a (0,0)).2):=by
 induction l with
 | nil=>intro a h;simp at h
 | cons p l ih =>
  intro a h
  have e:codeV (p :: l)=insV p++codeV l:=rfl
  cases a with
  | zero=>exact⟨rfl,rfl⟩
  | succ a =>
   have:=ih a (by simpa using h)
   rw [e]
   have hl:(insV p).length=2:=rfl
   refine⟨?_,?_⟩
   ·rw [List.getElem?_append_right (by omega),show (a+1) * 2 - (insV p).length=a * 2 by omega]
    simpa using this.1
   ·rw [List.getElem?_append_right (by omega),show (a+1) * 2+1 - (insV p).length=a * 2+1 by omega]
    simpa using this.2
def nowW (W:World) (k i:Int):World:=W.alloc (.cells #[.int .i64 k,.int .i64 i] 105)
def nextW (W:World) (k i:Int) (pb:Nat) (a:Int):World:=(nowW W k i).setCell ⟨pb,3,none⟩ (.int .i64 (a+1))
theorem body_heads {W:World} {p:Nat} {x:PPr} {a:Nat} (h:MsAt W mb ρ C V s) (hc:s.cur=some p) (hp:s.procs[p]?=some x) (ha:x.at_=a) (hal:a<C.code.length) :
  ∃ gc cap,W.cell? ⟨mb,5,none⟩=some (.pointer (some ⟨V.pb.getD p 0,0,none⟩))∧W.cell? ⟨V.pb.getD p 0,3,none⟩=some (.int .i64 a)∧W.cell? ⟨mb,0,none⟩=some (.slice (some ⟨gc,0,none⟩) C.code.length cap)∧C.code.length≤cap∧cap≤maxLen∧W.cell? ⟨gc,a * 2,none⟩=some (.int .i64 (C.code.getD a (0,0)).1)∧W.cell? ⟨gc,a * 2+1,none⟩=some (.int .i64 (C.code.getD a (0,0)).2):=by
 have q:=h.proc p x hp (fun x=>x)
 have c5:=mcur_cell h
 rw [hc] at c5
 have d3:W.cell? ⟨V.pb.getD p 0,3,none⟩=some (.int .i64 x.at_):=cell_at q.1 3
 rw [ha] at d3
 obtain⟨g,cap,cur,e1,hg,hn,hcc,hsz,hxs⟩:=row_pos (h.code (fun x=>x)).1 (by omega)
 have c0:W.cell? ⟨mb,0,none⟩=some V.co:=cell_at (h.blk (fun x=>x)) 0
 rw [e1] at c0
 have k:=code_at C.code a hal
 exact⟨g,cap,c5,d3,c0,hn,hcc,ownsRow_cell hg hxs k.1,ownsRow_cell hg hxs k.2⟩
theorem body_tails {ns:Bool} {W:World} {tb p k a:Nat} {x:PPr} {i:Int} (h:MsAt W mb ρ C V s) (hc:s.cur=some p) (hp:s.procs[p]?=some x) (ha:x.at_=a) (hT:W.heap[tb]?=some (.cells tabV 93)) (hj:ρ tb=.junk) (hk:k<25)
  (hok:okX ns C.br.length (s.setPr p { x with at_:=x.at_+1 }) p k i=true) (hbr:C.br.length≤1000000) (SL:ns=false->SleepH mb C) :
  (∀ j,(nowW W k i).cell? ⟨mb,j,none⟩=W.cell? ⟨mb,j,none⟩)∧(∀ j,(nowW W k i).cell? ⟨V.pb.getD p 0,j,none⟩=W.cell? ⟨V.pb.getD p 0,j,none⟩)∧(∀ j,(nowW W k i).frozen? ⟨V.pb.getD p 0,j,none⟩=false) ∧
  (nextW W k i (V.pb.getD p 0) a).drew.cell? ⟨W.heap.size,0,none⟩=some (.int .i64 k)∧(nextW W k i (V.pb.getD p 0) a).drew.cell? ⟨W.heap.size,1,none⟩=some (.int .i64 i) ∧
  (nextW W k i (V.pb.getD p 0) a).drew.cell? ⟨tb,k,none⟩=some (.func (.func (fnOf k)) #[] #[]) ∧
  ∃ ρ',MsGo V V ρ ρ' W (nextW W k i (V.pb.getD p 0) a).drew.drew∧Calls Tryz.prog (fnOf k) #[.pointer (some ⟨mb,0,none⟩),.int .i64 i] (nextW W k i (V.pb.getD p 0) a).drew.drew fun e w'=>e=.returned (.tuple #[])∧MsPost mb C ρ' V (nextW W k i (V.pb.getD p 0) a).drew.drew ((s.setPr p { x with at_:=x.at_+1 }).exec C.br p k i) w'∧w'.cell? ⟨W.heap.size,0,none⟩=some (.int .i64 k)∧w'.cell? ⟨W.heap.size,1,none⟩=some (.int .i64 i)∧w'.cell? ⟨tb,k,none⟩=some (.func (.func (fnOf k)) #[] #[]):=by
 have kA:MsAt (nowW W k i) mb _ C V s∧MsGo V V ρ _ W (nowW W k i):=h.allocJ (.cells #[.int .i64 k,.int .i64 i] 105)
 have q:=kA.1.proc p x hp (fun x=>x)
 have q0:=h.proc p x hp (fun x=>x)
 have hpl:=lt_of_at q0.1
 have hnew:(nowW W k i).heap[W.heap.size]?=some (.cells #[.int .i64 k,.int .i64 i] 105):=at_new W _
 have ntp:tb≠V.pb.getD p 0:=fun e=>by rw [e,q0.2] at hj;cases hj
 have hT2:(nextW W k i (V.pb.getD p 0) a).heap[tb]?=some (.cells tabV 93):=by
  unfold nextW
  rw [Below.heap_setCell _ _ _ _ ntp]
  exact at_alloc (w:=W) hT _
 have hN2:(nextW W k i (V.pb.getD p 0) a).heap[W.heap.size]?=some (.cells #[.int .i64 k,.int .i64 i] 105):=by
  unfold nextW
  rw [Below.heap_setCell _ _ _ _ (by show W.heap.size≠V.pb.getD p 0;omega)]
  exact hnew
 have fin:=mproc_set kA.1 hp 3 (.int .i64 ((a:Int)+1)) (x':={ x with at_:=x.at_+1 }) (by rw [ha];rfl) rfl
 have hb1:(nowW W k i).heap[mb]?=some (.cells (V.mach s) 102):=kA.1.blk (fun x=>x)
 have hlt:p<s.procs.length:=(List.getElem?_eq_some_iff.1 hp).1
 have hp1:(s.setPr p { x with at_:=x.at_+1 }).procs[p]?=some { x with at_:=x.at_+1 }:=by
  show (s.procs.set p _)[p]?=_
  rw [List.getElem?_set_self hlt]
 refine⟨fun j=>?_,fun j=>?_,fun j=>frozen_at q.1 j,cell_at hN2 0,cell_at hN2 1,?_,_,kA.2.trans fin.2.drew.drew,?_⟩
 ·rw [cell_at hb1,cell_at (h.blk (fun x=>x))]
 ·have e:(nowW W k i).cell? ⟨V.pb.getD p 0,j,none⟩=_:=cell_at q.1 j
  rw [e,cell_at q0.1]
 ·have e:=cell_at hT2 k
  exact e.trans (tab_at k hk)
 ·refine (mexec_any (s:=s.setPr p { x with at_:=x.at_+1 }) hc hp1 k i (by omega) (by omega) hok hbr SL _ fin.1.drew.drew).mono ?_
  rintro e w' ⟨he,ρ2,V2,k2,g2⟩
  have htl:=lt_of_at hT
  have htn:junkR ρ W.heap.size tb=.junk:=by
   unfold junkR
   rw [if_neg (by omega)]
   exact hj
  have b1:=(g2.fr.block W.heap.size (lt_of_at hN2) (by rw [junkR_new];simp)).1.trans hN2
  have b2:=(g2.fr.block tb (lt_of_at hT2) (by rw [htn];simp)).1.trans hT2
  exact⟨he,⟨ρ2,V2,k2,g2⟩,cell_at b1 0,cell_at b1 1,(cell_at b2 k).trans (tab_at k hk)⟩
end
end Go.Proofs.YtnhidaamfnjdjaaGreatDoor
namespace Go.Proofs.YtnhidaamfnjdjaaGreatDoor
open Go.RowKit Go.Maps
section
variable {mb : Nat} {ρ : Nat → MR} {C : CM} {V : MV} {s : MS}
theorem mcell_lt {w:World} {b o:Nat} {v:Value} (h:w.cell? ⟨b,o,none⟩=some v):b<w.heap.size:=by
 rcases Nat.lt_or_ge b w.heap.size with z|z
 ·exact z
 ·have e:w.heap[b]?=none:=Array.getElem?_eq_none z
  simp [World.cell?,e] at h
theorem leastN_le {P:Nat->Prop} {m:Nat} (h:P m):leastN P≤m:=(leastN_spec ⟨m,h⟩).2 m h
theorem enters (k:Nat) (h:k<25) (args:Array Value) (w:World):(callFunc (fnOf k) args).run Tryz.prog w=.ok (.enter (fnOf k) args) w:=by
 have cases:k=0∨k=1∨k=2∨k=3∨k=4∨k=5∨k=6∨k=7∨k=8∨k=9∨k=10∨k=11∨k=12∨k=13∨k=14∨k=15∨k=16∨k=17∨k=18∨k=19∨k=20∨k=21∨k=22∨k=23∨k=24:=by omega
 rcases cases with rfl|rfl|rfl|rfl|rfl|rfl|rfl|rfl|rfl|rfl|rfl|rfl|rfl|rfl|rfl|rfl|rfl|rfl|rfl|rfl|rfl|rfl|rfl|rfl|rfl
 ·show (callFunc 83 args).run Tryz.prog w=.ok (.enter 83 args) w
  go_simp
 ·show (callFunc 84 args).run Tryz.prog w=.ok (.enter 84 args) w
  go_simp
 ·show (callFunc 85 args).run Tryz.prog w=.ok (.enter 85 args) w
  go_simp
 ·show (callFunc 86 args).run Tryz.prog w=.ok (.enter 86 args) w
  go_simp
 ·show (callFunc 87 args).run Tryz.prog w=.ok (.enter 87 args) w
  go_simp
 ·show (callFunc 88 args).run Tryz.prog w=.ok (.enter 88 args) w
  go_simp
 ·show (callFunc 89 args).run Tryz.prog w=.ok (.enter 89 args) w
  go_simp
 ·show (callFunc 90 args).run Tryz.prog w=.ok (.enter 90 args) w
  go_simp
 ·show (callFunc 91 args).run Tryz.prog w=.ok (.enter 91 args) w
  go_simp
 ·show (callFunc 92 args).run Tryz.prog w=.ok (.enter 92 args) w
  go_simp
 ·show (callFunc 93 args).run Tryz.prog w=.ok (.enter 93 args) w
  go_simp
 ·show (callFunc 94 args).run Tryz.prog w=.ok (.enter 94 args) w
  go_simp
 ·show (callFunc 95 args).run Tryz.prog w=.ok (.enter 95 args) w
  go_simp
 ·show (callFunc 96 args).run Tryz.prog w=.ok (.enter 96 args) w
  go_simp
 ·show (callFunc 97 args).run Tryz.prog w=.ok (.enter 97 args) w
  go_simp
 ·show (callFunc 98 args).run Tryz.prog w=.ok (.enter 98 args) w
  go_simp
 ·show (callFunc 99 args).run Tryz.prog w=.ok (.enter 99 args) w
  go_simp
 ·show (callFunc 100 args).run Tryz.prog w=.ok (.enter 100 args) w
  go_simp
 ·show (callFunc 101 args).run Tryz.prog w=.ok (.enter 101 args) w
  go_simp
 ·show (callFunc 102 args).run Tryz.prog w=.ok (.enter 102 args) w
  go_simp
 ·show (callFunc 103 args).run Tryz.prog w=.ok (.enter 103 args) w
  go_simp
 ·show (callFunc 104 args).run Tryz.prog w=.ok (.enter 104 args) w
  go_simp
 ·show (callFunc 105 args).run Tryz.prog w=.ok (.enter 105 args) w
  go_simp
 ·show (callFunc 106 args).run Tryz.prog w=.ok (.enter 106 args) w
  go_simp
 ·show (callFunc 107 args).run Tryz.prog w=.ok (.enter 107 args) w
  go_simp
def RunInv (mb:Nat) (C:CM) (ns:Bool) (steps:Int) (r:Int×MS) (V0:MV) (ρ0:Nat->MR) (w0:World) (f:Nat) (y:Value) (wr:World):Prop :=
 ∃ (d:Int) (s:MS) (ρ:Nat->MR) (V:MV),y=.int .i64 d∧0≤d∧d≤1000000000000∧runC ns C.code C.br steps f d s=some r∧MsAt wr mb ρ C V s∧MsGo V0 V ρ0 ρ w0 wr
set_option maxRecDepth 20000 in
set_option maxHeartbeats 4000000 in
theorem mrun_any {ns:Bool} {fuel:Nat} {steps:Int} {r:Int×MS} (hrun:runC ns C.code C.br steps fuel 0 s=some r) (hst:steps≤1000000000000) (hcl:C.code.length≤1000000) (hbr:C.br.length≤1000000) {xr:PCh} (hch:r.2.chans[1]?=some xr) (hrl:okLens r.2=true) (SL:ns=false->SleepH mb C) (WK:ns=false->WakeH mb C) (w:World) (h:MsAt w mb ρ C V s) :
  Calls Tryz.prog 38 #[.pointer (some ⟨mb,0,none⟩),.int .i64 steps] w fun e w'=>e=.returned (.tuple #[.int .i64 r.1,.int .i64 r.2.stands])∧MsPost mb C ρ V w r.2 w':=by
 have A:=hide (actions_any w)
 have H:=hide h
 clear h
 go_enter Tryz.func38,Tryz.ntmps38
 go_wp2_with (first
  | (go_at_call 56;refine A.out.mono ?_;rintro e w1 ⟨rfl,hw1⟩;have k1:=H.out.allocJ (.cells tabV 93);rw [<-hw1] at k1;have k2:=k1.1.allocJ (.cells tabV 93);have hT:=at_new w1 (.cells tabV 93);have K2:=hide k2.1;have F2:=hide (k1.2.trans k2.2);have HT:=hide hT;clear A k1 k2 hT hw1)
  | (refine wpList_store_new (c':=tabV) rfl 93 (.tmp 6) (.tmp 9) rfl rfl rfl tabInfo rfl tabOne ?_))
 have EndIt:=hide (fun (W:World) (d:Int) (S:MS) (ρ':Nat->MR) (V':MV) (hr:r=(d,S)) (k:MsAt W mb ρ' C V' S) (g:MsGo V V' (junkR (junkR ρ w.heap.size) w1.heap.size) ρ' (w1.alloc (.cells tabV 93)) W)=>(show r.1=d∧Calls Tryz.prog 58 #[.pointer (some ⟨mb,0,none⟩)] W (fun e w'=>e=.returned (.int .i64 r.2.stands)∧w'=W)∧MsPost mb C ρ V w r.2 W from by
  obtain⟨l1,l2,l3,l4,l5,l6,l7⟩:=okLens_at hrl
  subst hr
  exact⟨rfl,mstands_any hch W k (by omega) (by omega) (by omega),ρ',V',k,F2.out.trans g⟩))
 go_loopw [7,8] (fun y _ wr=>∃ f,RunInv mb C ns steps r V (junkR (junkR ρ w.heap.size) w1.heap.size) (w1.alloc (.cells tabV 93)) f y wr) (fun y _ wr=>leastN (fun f=>RunInv mb C ns steps r V (junkR (junkR ρ w.heap.size) w1.heap.size) (w1.alloc (.cells tabV 93)) f y wr))
 case atStart=>exact⟨fuel,0,s,_,V,rfl,by omega,by omega,hrun,K2.out,MsGo.refl _ _ _⟩
 case round =>
  have spec:=leastN_spec hrel
  obtain⟨d,s1,ρ1,V1,rfl,hd0,hd1,hr1,k1,f1⟩:=spec.1
  have Spec:=hide spec.2
  clear spec hrel
  cases hcs:s1.cur with
  | none =>
   obtain⟨f0,hf0,hlS0,hcase0⟩:=runC_none hr1 hcs
   have c5n:=mcur_cell k1
   rw [hcs] at c5n
   unfold MV.ptrO at c5n
   simp only [Option.map_none] at c5n
   rcases hcase0 with ⟨hnd,hr⟩|⟨hds,hokm,hcase0⟩
   ·obtain⟨e1,cs,post⟩:=EndIt.out wr d s1 ρ1 V1 hr k1 f1
    have Cs:=hide cs
    have Post:=hide post
    have E1:=hide e1
    clear cs post e1 hr hf0 k1 f1 hr1
    go_wp2_with (go_at_call 58;refine Cs.out.mono ?_;rintro e w8 ⟨rfl,hw8⟩;have hw8:=hw8.symm;subst hw8)
    go_ret2
    exact⟨by rw [E1.out];rfl,Post.out⟩
   ·have MK:=hide (mmake_ok hcs hokm WK wr k1)
    have F1:=hide f1
    have Hr1:=hide hr1
    clear k1 f1 hr1
    generalize hS4:s1.makeCurrent=S4 at *
    clear hS4 hokm
    rcases hcase0 with ⟨hcn,hr⟩|⟨p,hcS,hrn⟩
    ·rw [hcn] at MK
     dsimp only [Option.isSome] at MK
     clear hcn
     go_wp2_with (first
      | (go_at_call 57;refine MK.out.mono ?_;rintro e w4 ⟨rfl,p4⟩;obtain⟨ρ4,V4,k4,g4⟩:=p4;obtain⟨e1,cs,post⟩:=EndIt.out w4 d S4 ρ4 V4 hr k4 (F1.out.trans g4);have Cs:=hide cs;have Post:=hide post;have E1:=hide e1;clear cs post e1 hr k4 g4)
      | (go_at_call 58;refine Cs.out.mono ?_;rintro e w8 ⟨rfl,hw8⟩;have hw8:=hw8.symm;subst hw8))
     go_ret2
     exact⟨by rw [E1.out];rfl,Post.out⟩
    ·rw [hcS] at MK
     dsimp only [Option.isSome] at MK
     have HcS:=hide hcS
     have Hrn:=hide hrn
     clear hcS hrn
     go_wp2_with (go_at_call 57;refine MK.out.mono ?_;rintro e w4 ⟨rfl,p4⟩;have P4:=hide p4;clear p4)
     obtain⟨ρ4,V4,k4,g4⟩:=P4.out
     have f4:=F1.out.trans g4
     have hcS:=HcS.out
     have hrn:=Hrn.out
     clear P4 g4 F1 MK HcS Hrn
     obtain⟨f3,x,a,k,i,hf3,hlS,hp,ha,hal,hi,hcase⟩:=runC_some hrn hcS
     obtain⟨gc,cap,c5,d3,c0,hcap1,hcap2,i0,i1⟩:=body_heads k4 hcS hp ha hal
     have hT:w4.heap[w1.heap.size]?=some (.cells tabV 93):=by
      rw [(f4.fr.block w1.heap.size (by simp) (by rw [junkR_new];simp)).1]
      exact HT.out
     have hj:ρ4 w1.heap.size=.junk:=by
      rw [(f4.fr.block w1.heap.size (by simp) (by rw [junkR_new];simp)).2]
      exact junkR_new _ _
     rw [hi] at i1
     have hal2:a<1000000000000:=by omega
     have y1:mb<w4.heap.size:=mcell_lt c5
     have y2:V4.pb.getD p 0<w4.heap.size:=mcell_lt d3
     have y3:gc<w4.heap.size:=mcell_lt i0
     rcases hcase with ⟨hk0,hsd,hr⟩|⟨hk,hns,hk25,hok,hnext⟩
     ·exact absurd hsd (by omega)
     ·obtain⟨m1,m2,m3,n0,n1,t1,ρ5,g5,call⟩:=body_tails k4 hcS hp ha hT hj hk25 hok hbr SL
      rw [hk] at i0
      generalize V4.pb.getD p 0=pb at *
      unfold nextW nowW at n0 n1 t1 g5 call
      unfold nowW at m1 m2 m3
      have m5:=(m1 5).trans c5
      have m6:=(m2 3).trans d3
      have Call:=hide call
      have G5:=hide (f4.trans g5)
      have Next:=hide hnext
      have Ent:=enters k hk25
      have y4:(0:Int)≤(k:Int):=by omega
      have y5:(k:Int)<25:=by omega
      clear m1 m2 hT hj hi hok hnext call g5 ha hk
      by_cases hk0:k=0
      ·have e0:((k:Int) == 0)=true:=by simpa using hk0
       have hd2:d<steps:=by omega
       rw [if_pos hk0] at Next
       clear hk0
       go_region_held3 (fun w'=>w'.cell? ⟨mb,5,none⟩=some (.pointer (some ⟨pb,0,none⟩))∧w'.cell? ⟨pb,3,none⟩=some (.int .i64 a)∧w'.cell? ⟨mb,0,none⟩=some (.slice (some ⟨gc,0,none⟩) C.code.length cap)∧w'.cell? ⟨gc,a * 2,none⟩=some (.int .i64 k)∧w'.cell? ⟨gc,a * 2+1,none⟩=some (.int .i64 i)) (go_keep) (fail)
       clear y1 y2 y3
       go_wp2_with fail
       generalize (fnOf (k:Int))=fk at *
       go_region_held3 (fun w'=>w'.cell? ⟨w4.heap.size,0,none⟩=some (.int .i64 k)∧w'.cell? ⟨w4.heap.size,1,none⟩=some (.int .i64 i)∧w'.cell? ⟨w1.heap.size,k,none⟩=some (.func (.func fk) #[] #[])) (go_keep) ((refine Call.out.mono ?_;rintro e w7 ⟨rfl,p7,z0,z1,z2⟩;have P7:=hide p7;clear p7))
       obtain⟨ρ7,V7,k7,g7⟩:=P7.out
       have inv:RunInv mb C ns steps r V (junkR (junkR ρ w.heap.size) w1.heap.size) (w1.alloc (.cells tabV 93)) f3 (.int .i64 (d+1)) w7:=⟨d+1,_,ρ7,V7,rfl,by omega,by omega,Next.out,k7,G5.out.trans g7⟩
       go_wp2_with fail
       go_roundw
       case rel=>exact⟨f3,inv⟩
       case measure =>
        show leastN _<leastN _
        rw [hf0,hf3]
        exact Nat.lt_succ_of_le (Nat.le_succ_of_le (leastN_le inv))
      ·have e0:((k:Int) == 0)=false:=by simpa using hk0
       rw [if_neg hk0] at Next
       clear hk0 hns
       go_region_held3 (fun w'=>w'.cell? ⟨mb,5,none⟩=some (.pointer (some ⟨pb,0,none⟩))∧w'.cell? ⟨pb,3,none⟩=some (.int .i64 a)∧w'.cell? ⟨mb,0,none⟩=some (.slice (some ⟨gc,0,none⟩) C.code.length cap)∧w'.cell? ⟨gc,a * 2,none⟩=some (.int .i64 k)∧w'.cell? ⟨gc,a * 2+1,none⟩=some (.int .i64 i)) (go_keep) (fail)
       clear y1 y2 y3
       go_wp2_with fail
       generalize (fnOf (k:Int))=fk at *
       go_region_held3 (fun w'=>w'.cell? ⟨w4.heap.size,0,none⟩=some (.int .i64 k)∧w'.cell? ⟨w4.heap.size,1,none⟩=some (.int .i64 i)∧w'.cell? ⟨w1.heap.size,k,none⟩=some (.func (.func fk) #[] #[])) (go_keep) ((refine Call.out.mono ?_;rintro e w7 ⟨rfl,p7,z0,z1,z2⟩;have P7:=hide p7;clear p7))
       obtain⟨ρ7,V7,k7,g7⟩:=P7.out
       have inv:RunInv mb C ns steps r V (junkR (junkR ρ w.heap.size) w1.heap.size) (w1.alloc (.cells tabV 93)) f3 (.int .i64 (d)) w7:=⟨d,_,ρ7,V7,rfl,by omega,by omega,Next.out,k7,G5.out.trans g7⟩
       go_wp2_with fail
       go_roundw
       case rel=>exact⟨f3,inv⟩
       case measure =>
        show leastN _<leastN _
        rw [hf0,hf3]
        exact Nat.lt_succ_of_le (Nat.le_succ_of_le (leastN_le inv))
  | some p =>
   have hcS:s1.cur=some p:=hcs
   obtain⟨f3,x,a,k,i,hf3,hlS,hp,ha,hal,hi,hcase⟩:=runC_some hr1 hcS
   obtain⟨gc,cap,c5,d3,c0,hcap1,hcap2,i0,i1⟩:=body_heads k1 hcS hp ha hal
   have hT:wr.heap[w1.heap.size]?=some (.cells tabV 93):=by
    rw [(f1.fr.block w1.heap.size (by simp) (by rw [junkR_new];simp)).1]
    exact HT.out
   have hj:ρ1 w1.heap.size=.junk:=by
    rw [(f1.fr.block w1.heap.size (by simp) (by rw [junkR_new];simp)).2]
    exact junkR_new _ _
   rw [hi] at i1
   have hal2:a<1000000000000:=by omega
   have y1:mb<wr.heap.size:=mcell_lt c5
   have y2:V1.pb.getD p 0<wr.heap.size:=mcell_lt d3
   have y3:gc<wr.heap.size:=mcell_lt i0
   rcases hcase with ⟨hk0,hsd,hr⟩|⟨hk,hns,hk25,hok,hnext⟩
   ·have hend:=EndIt.out wr d s1 ρ1 V1 hr k1 f1
    rw [hk0] at i0
    have hk0':((0:Int) == 0)=true:=rfl
    generalize V1.pb.getD p 0=pb at *
    have hend2:=EndIt.out (wr.alloc (.cells #[.int .i64 0,.int .i64 i] 105)).drew d s1 _ _ hr (k1.allocJ (.cells #[.int .i64 0,.int .i64 i] 105)).1.drew (f1.trans (k1.allocJ (.cells #[.int .i64 0,.int .i64 i] 105)).2.drew)
    have HE:=hide hend2
    have Hal:=hide hal
    clear hend hend2 hT hj hi hr hk0
    go_wp2_with fail
    go_region_held3 (fun w'=>w'.cell? ⟨mb,5,none⟩=some (.pointer (some ⟨pb,0,none⟩))∧w'.cell? ⟨pb,3,none⟩=some (.int .i64 a)∧w'.cell? ⟨mb,0,none⟩=some (.slice (some ⟨gc,0,none⟩) C.code.length cap)∧w'.cell? ⟨gc,a * 2,none⟩=some (.int .i64 0)∧w'.cell? ⟨gc,a * 2+1,none⟩=some (.int .i64 i)) (go_keep) (fail)
    clear y1 y2 y3
    obtain⟨e1,cs,post⟩:=HE.out
    have Cs:=hide cs
    have Post:=hide post
    have E1:=hide e1
    clear cs post HE e1
    go_wp2_with (go_at_call 58;refine Cs.out.mono ?_;rintro e w8 ⟨rfl,hw8⟩;have hw8:=hw8.symm;subst hw8)
    go_ret2
    exact⟨by rw [E1.out];rfl,Post.out⟩
   ·obtain⟨m1,m2,m3,n0,n1,t1,ρ5,g5,call⟩:=body_tails k1 hcS hp ha hT hj hk25 hok hbr SL
    rw [hk] at i0
    generalize V1.pb.getD p 0=pb at *
    unfold nextW nowW at n0 n1 t1 g5 call
    unfold nowW at m1 m2 m3
    have m5:=(m1 5).trans c5
    have m6:=(m2 3).trans d3
    have Call:=hide call
    have G5:=hide (f1.trans g5)
    have Next:=hide hnext
    have Ent:=enters k hk25
    have y4:(0:Int)≤(k:Int):=by omega
    have y5:(k:Int)<25:=by omega
    clear m1 m2 hT hj hi hok hnext call g5 ha hk
    by_cases hk0:k=0
    ·have e0:((k:Int) == 0)=true:=by simpa using hk0
     have hd2:d<steps:=by omega
     rw [if_pos hk0] at Next
     clear hk0
     go_wp2_with fail
     go_region_held3 (fun w'=>w'.cell? ⟨mb,5,none⟩=some (.pointer (some ⟨pb,0,none⟩))∧w'.cell? ⟨pb,3,none⟩=some (.int .i64 a)∧w'.cell? ⟨mb,0,none⟩=some (.slice (some ⟨gc,0,none⟩) C.code.length cap)∧w'.cell? ⟨gc,a * 2,none⟩=some (.int .i64 k)∧w'.cell? ⟨gc,a * 2+1,none⟩=some (.int .i64 i)) (go_keep) (fail)
     clear y1 y2 y3
     go_wp2_with fail
     generalize (fnOf (k:Int))=fk at *
     go_region_held3 (fun w'=>w'.cell? ⟨wr.heap.size,0,none⟩=some (.int .i64 k)∧w'.cell? ⟨wr.heap.size,1,none⟩=some (.int .i64 i)∧w'.cell? ⟨w1.heap.size,k,none⟩=some (.func (.func fk) #[] #[])) (go_keep) ((refine Call.out.mono ?_;rintro e w7 ⟨rfl,p7,z0,z1,z2⟩;have P7:=hide p7;clear p7))
     obtain⟨ρ7,V7,k7,g7⟩:=P7.out
     have inv:RunInv mb C ns steps r V (junkR (junkR ρ w.heap.size) w1.heap.size) (w1.alloc (.cells tabV 93)) f3 (.int .i64 (d+1)) w7:=⟨d+1,_,ρ7,V7,rfl,by omega,by omega,Next.out,k7,G5.out.trans g7⟩
     go_wp2_with fail
     go_roundw
     case rel=>exact⟨f3,inv⟩
     case measure =>
      show leastN _<leastN _
      rw [hf3]
      exact Nat.lt_succ_of_le (leastN_le inv)
    ·have e0:((k:Int) == 0)=false:=by simpa using hk0
     rw [if_neg hk0] at Next
     clear hk0 hns
     go_wp2_with fail
     go_region_held3 (fun w'=>w'.cell? ⟨mb,5,none⟩=some (.pointer (some ⟨pb,0,none⟩))∧w'.cell? ⟨pb,3,none⟩=some (.int .i64 a)∧w'.cell? ⟨mb,0,none⟩=some (.slice (some ⟨gc,0,none⟩) C.code.length cap)∧w'.cell? ⟨gc,a * 2,none⟩=some (.int .i64 k)∧w'.cell? ⟨gc,a * 2+1,none⟩=some (.int .i64 i)) (go_keep) (fail)
     clear y1 y2 y3
     go_wp2_with fail
     generalize (fnOf (k:Int))=fk at *
     go_region_held3 (fun w'=>w'.cell? ⟨wr.heap.size,0,none⟩=some (.int .i64 k)∧w'.cell? ⟨wr.heap.size,1,none⟩=some (.int .i64 i)∧w'.cell? ⟨w1.heap.size,k,none⟩=some (.func (.func fk) #[] #[])) (go_keep) ((refine Call.out.mono ?_;rintro e w7 ⟨rfl,p7,z0,z1,z2⟩;have P7:=hide p7;clear p7))
     obtain⟨ρ7,V7,k7,g7⟩:=P7.out
     have inv:RunInv mb C ns steps r V (junkR (junkR ρ w.heap.size) w1.heap.size) (w1.alloc (.cells tabV 93)) f3 (.int .i64 (d)) w7:=⟨d,_,ρ7,V7,rfl,by omega,by omega,Next.out,k7,G5.out.trans g7⟩
     go_wp2_with fail
     go_roundw
     case rel=>exact⟨f3,inv⟩
     case measure =>
      show leastN _<leastN _
      rw [hf3]
      exact Nat.lt_succ_of_le (leastN_le inv)
end
end Go.Proofs.YtnhidaamfnjdjaaGreatDoor
