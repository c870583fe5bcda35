import Derived.Test.YtnhidaamfnjdjaaGreatDoorZMacH
import Derived.Test.YtnhidaamfnjdjaaGreatDoorZMakA
namespace Go.Proofs.YtnhidaamfnjdjaaGreatDoor
open Go.RowKit Go.Maps
section
variable {mb : Nat} {ρ : Nat → MR} {C : CM} {V : MV} {s : MS}
theorem MsAt.low {w w':World} (h:MsAt w mb ρ C V s) (hb:Below w.heap.size w w'):MsAt w' mb ρ C V s∧MsGo V V ρ ρ w w' :=
 ⟨MsIf.keepA h ⟨hb.os,hb.tape,hb.output,hb.size,fun g hg _=>⟨hb.block g hg,rfl⟩⟩ h.rb.1,⟨hb.os,hb.tape,hb.output,hb.size,fun g hg _=>⟨hb.block g hg,rfl⟩⟩,List.prefix_rfl⟩
theorem unread_chans (s:MS) (k:Nat) (x:PCh) (hx:s.chans[k]?=some x) (br:Int×Int×Int) (hb:br.1=k):s.unread br={ s with chans:=s.chans.set k { x with rd:=none } }:=by
 unfold MS.unread
 rw [hb,ch_get hx,setCh_nat]
theorem unread_len (br:Int×Int×Int) (s:MS):(s.unread br).chans.length=s.chans.length∧(s.unread br).procs=s.procs∧(s.unread br).vars=s.vars∧(s.unread br).urg=s.urg∧(s.unread br).oth=s.oth:=by
 unfold MS.unread MS.setCh
 simp
theorem unreads_len:∀ (l:List (Int×Int×Int)) (s:MS),(l.foldl MS.unread s).chans.length=s.chans.length∧(l.foldl MS.unread s).procs=s.procs∧(l.foldl MS.unread s).vars=s.vars∧(l.foldl MS.unread s).urg=s.urg∧(l.foldl MS.unread s).oth=s.oth
 | [],s=>⟨rfl,rfl,rfl,rfl,rfl⟩
 | br :: l,s=>by
  have h1:=unreads_len l (s.unread br)
  have h2:=unread_len br s
  rw [List.foldl_cons]
  exact⟨h1.1.trans h2.1,h1.2.1.trans h2.2.1,h1.2.2.1.trans h2.2.2.1,h1.2.2.2.1.trans h2.2.2.2.1,h1.2.2.2.2.trans h2.2.2.2.2⟩
theorem hasRead_is {p:Nat} {x:PPr} (hp:s.procs[p]?=some x) (c n:Int):s.hasRead p c n=(match x.opn.find? (fun (b:Int×Int×Int)=>b.1 == c) with|some b=>(x.opn.foldl MS.unread s).follow p b n|none=>x.opn.foldl MS.unread s).goOn p:=by
 unfold MS.hasRead
 rw [pr_get hp]
 rfl
theorem find_at {l:List (Int×Int×Int)} {c:Int} {j:Nat} (hj:j<l.length) (hne:∀ i,i<j->(l.getD i (0,0,0)).1≠c) (he:(l.getD j (0,0,0)).1=c):l.find? (fun b=>b.1 == c)=some (l.getD j (0,0,0)):=by
 rw [List.find?_eq_some_iff_append]
 refine⟨by simpa using he,l.take j,l.drop (j+1),?_,fun a ha=>?_⟩
 ·rw [getD_lt _ _ _ hj,<-List.drop_eq_getElem_cons hj,List.take_append_drop]
 ·obtain⟨i,hi,rfl⟩:=List.getElem_of_mem ha
  rw [List.length_take] at hi
  have:=hne i (by omega)
  rw [getD_lt _ _ _ (by omega)] at this
  simpa using this
theorem find_no {l:List (Int×Int×Int)} {c:Int} (hne:∀ i,i<l.length->(l.getD i (0,0,0)).1≠c):l.find? (fun b=>b.1 == c)=none:=by
 rw [List.find?_eq_none]
 intro a ha
 obtain⟨i,hi,rfl⟩:=List.getElem_of_mem ha
 have:=hne i hi
 rw [getD_lt _ _ _ hi] at this
 simpa using this
set_option maxRecDepth 20000 in
set_option maxHeartbeats 4000000 in
theorem mhasRead_any {p:Nat} {x:PPr} (hp:s.procs[p]?=some x) (c n:Int) (hb:∀ br∈x.opn,(∃ k:Nat,br.1=k∧k<s.chans.length)∧∃ i:Nat,br.2.1=i∧i<s.vars.length) (w:World) (h:MsAt w mb ρ C V s) (hol:x.opn.length≤1000000000000) (hcl0:s.chans.length≤1000000000000) (hvl:s.vars.length≤1000000000000) (hu:s.urg.length+1≤1000000000000) (ho:s.oth.length+1≤1000000000000) :
  Calls Tryz.prog 165 #[V.ptr p,.int .i64 c,.int .i64 n] w fun e w'=>e=.returned (.tuple #[])∧MsPost mb C ρ V w (s.hasRead p c n) w':=by
 have q:=h.proc p x hp (fun x=>x)
 have o:=h.opn p x hp (fun x=>x)
 obtain⟨oa,oc,hov⟩:=ownsRow_len o.1
 have d4:w.cell? ⟨V.pb.getD p 0,4,none⟩=some (.slice oa x.opn.length oc):=by rw [<-hov];exact cell_at q.1 4
 unfold MV.ptr ptrB
 have H:=hide h;have Hov:=hide hov
 clear h q o hov
 generalize hpb:V.pb.getD p 0=pb at *
 have Hpb:=hide hpb
 clear hpb
 go_enter Tryz.func165,Tryz.ntmps165
 go_wp2_with fail
 go_loopw [7,15] (fun _ y wr=>∃ j:Nat,j≤x.opn.length∧y=.int .i64 j∧MsAt wr mb ρ C V ((x.opn.take j).foldl MS.unread s)∧MsGo V V ρ ρ w wr) (fun _ y _=>x.opn.length - (intOf y).toNat)
 case atStart=>exact⟨0,Nat.zero_le _,rfl,H.out,MsGo.refl _ _ _⟩
 case round =>
  obtain⟨j,hj,rfl,k1,f1⟩:=hrel
  have hlen:=unreads_len (x.opn.take j) s
  have hp1:((x.opn.take j).foldl MS.unread s).procs[p]?=some x:=by rw [hlen.2.1];exact hp
  have q1:=k1.proc p x hp1 (fun x=>x)
  have o1:=k1.opn p x hp1 (fun x=>x)
  by_cases hlt:j<x.opn.length
  ·obtain⟨g,cap,cur,e1,hg,hn,hcc,hsz,hxs⟩:=row_pos o1.1 (by omega)
   have hov2:=Hov.out
   rw [hov2] at e1
   simp only [Value.slice.injEq,true_and] at e1
   obtain⟨rfl,rfl⟩:=e1
   have hw:=waysV_at x.opn j hlt
   have a0:wr.cell? ⟨g,j * 3,none⟩=some (.int .i64 (x.opn.getD j (0,0,0)).1):=ownsRow_cell hg hxs hw.1
   have a1:wr.cell? ⟨g,j * 3+1,none⟩=some (.int .i64 (x.opn.getD j (0,0,0)).2.1):=ownsRow_cell hg hxs hw.2.1
   have a2:wr.cell? ⟨g,j * 3+2,none⟩=some (.int .i64 (x.opn.getD j (0,0,0)).2.2):=ownsRow_cell hg hxs hw.2.2
   obtain⟨k,hbk,hkl⟩:=(hb (x.opn.getD j (0,0,0)) (by rw [getD_lt _ _ _ hlt];exact List.getElem_mem hlt)).1
   have hst:(x.opn.take (j+1)).foldl MS.unread s=((x.opn.take j).foldl MS.unread s).unread (x.opn.getD j (0,0,0)):=by
    rw [List.take_add_one,List.getElem?_eq_getElem hlt,List.foldl_append,getD_lt _ _ _ hlt]
    rfl
   have hkl2:k<((x.opn.take j).foldl MS.unread s).chans.length:=by rw [hlen.1];exact hkl
   obtain⟨y,hy⟩:∃ y,((x.opn.take j).foldl MS.unread s).chans[k]?=some y:=⟨_,List.getElem?_eq_getElem hkl2⟩
   rw [unread_chans _ k y hy _ hbk] at hst
   have hcl:((x.opn.take j).foldl MS.unread s).chans.length≤1000000000000:=by rw [hlen.1];exact hcl0
   rw [hbk] at a0
   generalize x.opn.getD j (0,0,0)=br at *
   generalize (x.opn.take j).foldl MS.unread s=S at *
   have kA:=k1.alloc (.cells #[.int .i64 (k:Int),.int .i64 br.2.1,.int .i64 br.2.2] 207)
   have b0:(wr.alloc (.cells #[.int .i64 (k:Int),.int .i64 br.2.1,.int .i64 br.2.2] 207)).cell? ⟨wr.heap.size,0,none⟩=some (.int .i64 (k:Int)):=cell_at (at_new wr _) 0
   have p0:(wr.alloc (.cells #[.int .i64 (k:Int),.int .i64 br.2.1,.int .i64 br.2.2] 207)).cell? ⟨pb,0,none⟩=some (.pointer (some ⟨mb,0,none⟩)):=by rw [<-Hpb.out];exact cell_at (kA.1.proc p x hp1 (fun x=>x)).1 0
   obtain⟨g2,cap2,hv2,h21,h22,c3,e0,e1,e2,fz2,ne2⟩:=mchan_at kA.1 hy
   have fin:=mchan_set kA.1 hy hv2 1 (by omega) (.pointer none) (x':={ y with rd:=none }) rfl rfl
   rw [<-hst] at fin
   have Fin:=hide fin.1.drew;have F2:=hide ((f1.trans kA.2).trans fin.2.drew)
   unfold MV.ptrO at e1
   clear k1 f1 q1 o1 hg hxs hsz hw hst kA fin hbk hp1 hlen hy e0 e2 hv2 ne2
   generalize y.rd.map (fun i=>(⟨V.pb.getD i 0,0,none⟩:Addr))=ra at *
   generalize S.chans.length=ncl at *
   generalize br.2.1=q1 at *
   generalize br.2.2=q2 at *
   go_wp2_with fail
   go_region
   all_goals
    go_wp2_with fail
    go_roundw
    case rel=>exact⟨j+1,by omega,by go_num,Fin.out,F2.out⟩
    case measure=>simp [intOf];omega
  ·have e:x.opn.take j=x.opn:=List.take_of_length_le (by omega)
   rw [e] at k1 hlen hp1
   have d4':wr.cell? ⟨pb,4,none⟩=some (.slice oa x.opn.length oc):=by rw [<-Hpb.out,<-Hov.out];exact cell_at (k1.proc p x hp1 (fun x=>x)).1 4
   have K1:=hide k1;have F1:=hide f1
   clear k1 f1 q1 o1 e
   go_wp2_with fail
   go_loopw [9,36] (fun _ y wr=>∃ j:Nat,j≤x.opn.length∧y=.int .i64 j∧MsAt wr mb ρ C V (x.opn.foldl MS.unread s)∧MsGo V V ρ ρ w wr∧∀ i,i<j->(x.opn.getD i (0,0,0)).1≠c) (fun _ y _=>x.opn.length - (intOf y).toNat)
   case atStart=>exact⟨0,Nat.zero_le _,rfl,K1.out,F1.out,fun i hi=>by omega⟩
   case round =>
    obtain⟨j2,hj2,rfl,k2,f2,hne⟩:=hrel
    have q2:=k2.proc p x hp1 (fun x=>x)
    have o2:=k2.opn p x hp1 (fun x=>x)
    by_cases hlt2:j2<x.opn.length
    ·obtain⟨g,cap,cur,e1,hg,hn,hcc,hsz,hxs⟩:=row_pos o2.1 (by omega)
     have hov2:=Hov.out
     rw [hov2] at e1
     simp only [Value.slice.injEq,true_and] at e1
     obtain⟨rfl,rfl⟩:=e1
     have hw:=waysV_at x.opn j2 hlt2
     have a0:wr.cell? ⟨g,j2 * 3,none⟩=some (.int .i64 (x.opn.getD j2 (0,0,0)).1):=ownsRow_cell hg hxs hw.1
     have a1:wr.cell? ⟨g,j2 * 3+1,none⟩=some (.int .i64 (x.opn.getD j2 (0,0,0)).2.1):=ownsRow_cell hg hxs hw.2.1
     have a2:wr.cell? ⟨g,j2 * 3+2,none⟩=some (.int .i64 (x.opn.getD j2 (0,0,0)).2.2):=ownsRow_cell hg hxs hw.2.2
     have hbj:=hb (x.opn.getD j2 (0,0,0)) (by rw [getD_lt _ _ _ hlt2];exact List.getElem_mem hlt2)
     obtain⟨i,hbi,hil⟩:=hbj.2
     have hfind:=fun he=>find_at hlt2 hne he
     have hnext:(x.opn.getD j2 (0,0,0)).1≠c->∀ i,i<j2+1->(x.opn.getD i (0,0,0)).1≠c:=fun he i hi=>by
      rcases Nat.lt_or_ge i j2 with y|y
      ·exact hne i y
      ·have:i=j2:=by omega
       subst this
       exact he
     have kA:=k2.alloc (.cells #[.int .i64 (x.opn.getD j2 (0,0,0)).1,.int .i64 (x.opn.getD j2 (0,0,0)).2.1,.int .i64 (x.opn.getD j2 (0,0,0)).2.2] 207)
     have hB:=at_new wr (.cells #[.int .i64 (x.opn.getD j2 (0,0,0)).1,.int .i64 (x.opn.getD j2 (0,0,0)).2.1,.int .i64 (x.opn.getD j2 (0,0,0)).2.2] 207)
     have b0:=cell_at hB 0
     have b1:=cell_at hB 1
     have b2:=cell_at hB 2
     have Fo:=hide (mfollow_any (s:=x.opn.foldl MS.unread s) hp1 (x.opn.getD j2 (0,0,0)) i hbi (by rw [hlen.2.2.1];exact hil) (by rw [hlen.2.2.1];exact hvl) n _ kA.1)
     have F2:=hide (f2.trans kA.2)
     have Kr:=hide kA.1
     have Hfind:=hide hfind;have Hnext:=hide hnext
     have hgo:∀ (w8:World) (ρ8:Nat->MR) (V8:MV),x.opn.getD j2 (0,0,0)=x.opn.getD j2 (0,0,0)->(x.opn.getD j2 (0,0,0)).1=c->MsAt w8 mb ρ8 C V8 ((x.opn.foldl MS.unread s).follow p (x.opn.getD j2 (0,0,0)) n)->MsGo V V8 ρ ρ8 w w8->Calls Tryz.prog 196 #[.pointer (some ⟨pb,0,none⟩)] w8 fun e w'=>e=.returned (.tuple #[])∧MsPost mb C ρ V w (s.hasRead p c n) w':=by
      intro w8 ρ8 V8 _ he k8 g8
      have hpl:p<s.procs.length:=(List.getElem?_eq_some_iff.1 hp).1
      have hfo:=follow_is (s:=x.opn.foldl MS.unread s) hp1 (x.opn.getD j2 (0,0,0)) n
      have hp8:((x.opn.foldl MS.unread s).follow p (x.opn.getD j2 (0,0,0)) n).procs[p]?=some { x with at_:=(x.opn.getD j2 (0,0,0)).2.2,opn:=[] }:=by
       rw [hfo]
       show ((x.opn.foldl MS.unread s).procs.set p _)[p]?=_
       rw [List.getElem?_set_self (by rw [hlen.2.1];exact hpl)]
      have e8:V8.pb.getD p 0=pb:=by rw [g8.ptr (by rw [H.out.lens.1];exact hpl)];exact Hpb.out
      have hu8:((x.opn.foldl MS.unread s).follow p (x.opn.getD j2 (0,0,0)) n).urg.length+1≤1000000000000:=by rw [hfo];show (x.opn.foldl MS.unread s).urg.length+1≤_;rw [hlen.2.2.2.1];exact hu
      have ho8:((x.opn.foldl MS.unread s).follow p (x.opn.getD j2 (0,0,0)) n).oth.length+1≤1000000000000:=by rw [hfo];show (x.opn.foldl MS.unread s).oth.length+1≤_;rw [hlen.2.2.2.2];exact ho
      have g:=mgoOn_any hp8 w8 k8 hu8 ho8
      unfold MV.ptr ptrB at g
      rw [e8] at g
      refine g.mono ?_
      rintro e w' ⟨he2,ρ9,V9,k9,g9⟩
      refine⟨he2,ρ9,V9,?_,g8.trans g9⟩
      rw [hasRead_is hp,hfind he]
      exact k9
     have Hgo:=hide hgo
     clear k2 f2 hne q2 o2 hg hxs hsz hw kA hB hfind hnext hgo
     generalize x.opn.getD j2 (0,0,0)=br at *
     unfold MV.ptr ptrB at Fo
     rw [Hpb.out] at Fo
     by_cases he:br.1=c
     ·have e0:(br.1 == c)=true:=by simpa using he
      have Hg2:=hide (fun w8 ρ8 V8=>Hgo.out w8 ρ8 V8 rfl he)
      clear he Hgo Hnext Hfind hbj hbi Kr
      generalize (x.opn.foldl MS.unread s).follow p br n=s8 at *
      obtain⟨br1,br2,br3⟩:=br
      simp only at *
      go_wp2_with (first|(go_at_call 163;refine Fo.out.mono ?_;rintro e w8 ⟨rfl,ρ8,V8,k8,g8⟩;have G8:=hide (Hg2.out _ _ _ k8 (F2.out.trans g8));clear k8 g8)|(go_at_call 196;refine G8.out.mono ?_;rintro e w9 ⟨rfl,p9⟩;have P9:=hide p9;clear p9))
      go_end0
      exact⟨rfl,P9.out⟩
     ·have e0:(br.1 == c)=false:=by simpa using he
      have Hn2:=hide (Hnext.out he)
      clear he Hgo Hnext Hfind hbj hbi Fo
      obtain⟨br1,br2,br3⟩:=br
      simp only at *
      go_wp2_with fail
      go_roundw
      case rel=>exact⟨j2+1,by omega,by go_num,Kr.out,F2.out,Hn2.out⟩
      case measure=>simp [intOf];omega
    ·have hfn:=find_no (l:=x.opn) (c:=c) (fun i hi=>hne i (by omega))
     have g:=mgoOn_any hp1 wr k2 (by rw [hlen.2.2.2.1];exact hu) (by rw [hlen.2.2.2.2];exact ho)
     unfold MV.ptr ptrB at g
     rw [Hpb.out] at g
     have G:Hid (Calls Tryz.prog 196 #[.pointer (some ⟨pb,0,none⟩)] wr fun e w'=>e=.returned (.tuple #[])∧MsPost mb C ρ V w (s.hasRead p c n) w'):=by
      refine g.mono ?_
      rintro e w' ⟨he2,ρ9,V9,k9,g9⟩
      refine⟨he2,ρ9,V9,?_,f2.trans g9⟩
      rw [hasRead_is hp,hfn]
      exact k9
     clear k2 f2 hne q2 o2 g hfn
     go_wp2_with (go_at_call 196;refine G.out.mono ?_;rintro e w9 ⟨rfl,p9⟩;have P9:=hide p9;clear p9)
     go_end0
     exact⟨rfl,P9.out⟩
end
end Go.Proofs.YtnhidaamfnjdjaaGreatDoor
namespace Go.Proofs.YtnhidaamfnjdjaaGreatDoor
open Go.RowKit Go.Maps
section
variable {mb : Nat} {ρ : Nat → MR} {C : CM} {V : MV} {s : MS}
theorem send_none {c:Nat} {x:PCh} (hx:s.chans[c]?=some x) (hr:x.rd=none) (n:Int):s.send c n=(false,{ s with chans:=s.chans.set c { x with nums:=x.nums++[n] } }):=by
 unfold MS.send
 rw [ch_get hx]
 simp only [hr]
 rw [setCh_nat]
theorem send_some {c p:Nat} {x:PCh} {y:PPr} (hx:s.chans[c]?=some x) (hr:x.rd=some p) (hp:s.procs[p]?=some y) (hy:y.told=2) (n:Int):s.send c n=(true,s.hasRead p c n):=by
 unfold MS.send
 rw [ch_get hx]
 simp only [hr]
 unfold MS.tell
 rw [pr_get hp,hy]
 rfl
set_option maxRecDepth 20000 in
set_option maxHeartbeats 4000000 in
theorem msend_none {c:Nat} {x:PCh} (hx:s.chans[c]?=some x) (hr:x.rd=none) (n:Int) (w:World) (h:MsAt w mb ρ C V s) (_hcl:s.chans.length≤1000000000000) (hn:x.nums.length+1≤20000000000000) :
  Calls Tryz.prog 59 #[.pointer (some ⟨mb,0,none⟩),.int .i64 c,.int .i64 n] w fun e w'=>e=.returned (.bool false)∧MsPost mb C ρ V w (s.send c n).2 w':=by
 have hlt:c<s.chans.length:=(List.getElem?_eq_some_iff.1 hx).1
 obtain⟨g,cap,hv,h1,h2,c3,d0,d1,d2,fz,ne⟩:=mchan_at h hx
 have q:=h.num c x hx (fun x=>x)
 obtain⟨na,nc,hnv⟩:=q.1.len
 rw [List.length_map] at hnv
 have hgc:∀ k,(V.nv.getD c (.slice none 0 0)).ownBlock=some k->k≠g:=fun k hk e=>by
  have h3:=q.2 k hk
  have h4:=(h.chans (fun x=>x)).2 g (by rw [hv];rfl)
  rw [e,h4] at h3
  cases h3
 have hgl:g<w.heap.size:=own_lt (h.chans (fun x=>x)).1 (by rw [hv];rfl)
 have keep:∀ (w4:World),(w.alloc (.cells #[.int .i64 n] 3)).grownBy w4 (V.nv.getD c (.slice none 0 0)).ownBlock->w4.heap[g]?=w.heap[g]?:=by
  intro w4 g4
  have hsz:(w.alloc (.cells #[.int .i64 n] 3)).heap.size=w.heap.size+1:=by simp
  rw [g4.block g (by omega) (fun e=>hgc g e.symm rfl)]
  exact Below.heap_alloc _ _ _ hgl
 have law:∀ (w4:World),(w.alloc (.cells #[.int .i64 n] 3)).grownBy w4 (V.nv.getD c (.slice none 0 0)).ownBlock->w4.cell? ⟨g,c * 3,none⟩=some (V.nv.getD c (.slice none 0 0))∧∀ k,w4.frozen? ⟨g,k,none⟩=false:=fun w4 g4=>⟨by rw [<-d0];exact World.cell?_of_block (keep w4 g4),fun k=>by rw [<-fz k];exact World.frozen?_of_block (keep w4 g4)⟩
 have fin:∀ (v':Value) (w4:World),QAt w4 3 v' (x.nums.map intV++[.int .i64 n])->(w.alloc (.cells #[.int .i64 n] 3)).grownBy w4 (V.nv.getD c (.slice none 0 0)).ownBlock->(v'.ownBlock=(V.nv.getD c (.slice none 0 0)).ownBlock∨∃ g,v'.ownBlock=some g∧(w.alloc (.cells #[.int .i64 n] 3)).heap.size≤g)->MsPost mb C ρ V w (s.send c n).2 (w4.setCell ⟨g,c * 3,none⟩ v'):=fun v' w4 q4 g4 b4=>by
  rw [send_none hx hr]
  exact⟨_,_,mnum_app h hx hv g4 q4 b4⟩
 have qa:QAt (w.alloc (.cells #[.int .i64 n] 3)) 3 (V.nv.getD c (.slice none 0 0)) (x.nums.map intV):=q.1.frame (fun g hg=>Below.heap_alloc _ _ _ (q.1.lt hg))
 rw [hnv] at d0 law fin qa keep
 rw [hr] at d1
 unfold MV.ptrO at d1
 simp only [Option.map_none] at d1
 have Law:=hide law;have Fin:=hide fin;have Qa:=hide qa
 have Hpl:Hid ((x.nums.map intV).length=x.nums.length):=List.length_map ..
 clear h hx hv q law fin qa hnv hgc keep hr d2 ne
 generalize x.nums.length=nl at *
 generalize x.nums.map intV=xs at *
 generalize s.chans.length=ncl at *
 generalize (s.send (c:Int) n).2=s2 at *
 go_enter Tryz.func59,Tryz.ntmps59
 go_wp2_with (at_builtin;refine wpList_appendQB Tryz.underlying36 intInfo' rfl (by decide) rfl _ _ rfl (.slice na nl nc) xs rfl Qa.out ⟨w.heap.size,0,none⟩ 1 (.int .i64 n) rfl (by exact cell_at (at_new w _) 0) rfl (by rw [Hpl.out];exact hn) ?_;intro v' w4 q4 g4 b4;obtain⟨va',vc',hv'⟩:=q4.len;subst hv';obtain⟨y4,z4⟩:=Law.out _ g4;have R:=hide (Fin.out _ _ q4 g4 b4);clear q4 g4 b4)
 go_ret
 refine⟨rfl,?_⟩
 have:=R.out
 rw [List.length_append,List.length_singleton,Hpl.out] at this
 simpa [Hpl.out] using this
set_option maxRecDepth 20000 in
set_option maxHeartbeats 4000000 in
theorem msend_some {c p:Nat} {x:PCh} {y:PPr} (hx:s.chans[c]?=some x) (hr:x.rd=some p) (hp:s.procs[p]?=some y) (hy:y.told=2) (n:Int) (hb:∀ br∈y.opn,(∃ k:Nat,br.1=k∧k<s.chans.length)∧∃ i:Nat,br.2.1=i∧i<s.vars.length) (w:World) (h:MsAt w mb ρ C V s) (hcl:s.chans.length≤1000000000000) (hol:y.opn.length≤1000000000000) (hvl:s.vars.length≤1000000000000) (hu:s.urg.length+1≤1000000000000) (ho:s.oth.length+1≤1000000000000) :
  Calls Tryz.prog 59 #[.pointer (some ⟨mb,0,none⟩),.int .i64 c,.int .i64 n] w fun e w'=>e=.returned (.bool true)∧MsPost mb C ρ V w (s.send c n).2 w':=by
 have hlt:c<s.chans.length:=(List.getElem?_eq_some_iff.1 hx).1
 obtain⟨g,cap,hv,h1,h2,c3,d0,d1,d2,fz,ne⟩:=mchan_at h hx
 have qp:=h.proc p y hp (fun x=>x)
 have d6:w.cell? ⟨V.pb.getD p 0,6,none⟩=some (toldV y.told (V.pb.getD p 0)):=cell_at qp.1 6
 have R:=hide (mhasRead_any hp c n hb w h hol hcl hvl hu ho)
 rw [send_some hx hr hp hy]
 rw [hr] at d1
 rw [hy] at d6
 unfold toldV ptrB at d6
 simp only [if_true,show ¬ (2:Nat)=1 by decide,if_false] at d6
 unfold MV.ptrO at d1
 simp only [Option.map_some] at d1
 unfold MV.ptr ptrB at R
 clear h hx hv hr hp hy hb qp d0 d2 fz ne
 generalize V.pb.getD p 0=pb at *
 generalize s.chans.length=ncl at *
 go_enter Tryz.func59,Tryz.ntmps59
 go_wp2_with (go_at_call 165;refine R.out.mono ?_;rintro e w2 ⟨rfl,p2⟩;have P2:=hide p2;clear p2)
 go_ret
 exact⟨rfl,P2.out⟩
end
end Go.Proofs.YtnhidaamfnjdjaaGreatDoor
namespace Go.Proofs.YtnhidaamfnjdjaaGreatDoor
open Go.RowKit Go.Maps
section
variable {mb : Nat} {ρ : Nat → MR} {C : CM} {V : MV} {s : MS}
set_option maxRecDepth 20000 in
set_option maxHeartbeats 4000000 in
theorem mwrite_read {l:List Int} {n:Int} (hs:s.stack=l++[n]) (hn:l.length≤1000000000000) {c q:Nat} {x:PCh} {y:PPr} (hx:s.chans[c]?=some x) (hr:x.rd=some q) (hq:s.procs[q]?=some y) (hy:y.told=2) (hb:∀ br∈y.opn,(∃ k:Nat,br.1=k∧k<s.chans.length)∧∃ i:Nat,br.2.1=i∧i<s.vars.length) (w:World) (h:MsAt w mb ρ C V s) (hcl:s.chans.length≤1000000000000) (hol:y.opn.length≤1000000000000) (hvl:s.vars.length≤1000000000000) (hu:s.urg.length+1≤1000000000000) (ho:s.oth.length+1≤1000000000000) :
  Calls Tryz.prog 97 #[.pointer (some ⟨mb,0,none⟩),.int .i64 c] w fun e w'=>e=.returned (.tuple #[])∧MsPost mb C ρ V w (s.pop.send c n).2 w':=by
 have T:=hide (mtake_st l n hs w h hn)
 have S:=hide (fun w (V:MV) (h:MsAt w mb ρ C V s.pop)=>msend_some (s:=s.pop) hx hr hq hy n hb w h hcl hol hvl hu ho)
 clear h hs hx hr hq hy hb
 generalize (s.pop.send (c:Int) n).2=s2 at *
 go_enter Tryz.func97,Tryz.ntmps97
 go_wp2_with (first|(go_at_call 159;refine T.out.mono ?_;rintro e w1 ⟨rfl,v1,k1,f1⟩;have K1:=hide k1;have F1:=hide f1;clear k1 f1)|(go_at_call 59;refine (S.out _ _ K1.out).mono ?_;rintro e w2 ⟨rfl,ρ2,V2,k2,f2⟩;have K2:=hide k2;have F2:=hide (F1.out.trans f2);clear k2 f2))
 go_end0
 exact⟨rfl,_,_,K2.out,F2.out⟩
set_option maxRecDepth 20000 in
set_option maxHeartbeats 4000000 in
theorem mwrite_wait {l:List Int} {n:Int} (hs:s.stack=l++[n]) (hn:l.length≤1000000000000) {c p:Nat} {x:PCh} {y:PPr} (hx:s.chans[c]?=some x) (hr:x.rd=none) (hc:s.cur=some p) (hp:s.procs[p]?=some y) (w:World) (h:MsAt w mb ρ C V s) (hcl:s.chans.length≤1000000000000) (hnl:x.nums.length+1≤20000000000000) :
  Calls Tryz.prog 97 #[.pointer (some ⟨mb,0,none⟩),.int .i64 c] w fun e w'=>e=.returned (.tuple #[])∧MsPost mb C ρ V w (((s.pop.send c n).2.setCh c { (s.pop.send c n).2.ch c with wr:=some p }).wait p 1) w':=by
 have hlt:c<s.chans.length:=(List.getElem?_eq_some_iff.1 hx).1
 have T:=hide (mtake_st l n hs w h hn)
 have S:=hide (fun w (V:MV) (h:MsAt w mb ρ C V s.pop)=>msend_none (s:=s.pop) hx hr n w h hcl hnl)
 have es:=send_none (s:=s.pop) hx hr n
 have hx2:(s.pop.send c n).2.chans[c]?=some { x with nums:=x.nums++[n] }:=by
  rw [es]
  show (s.chans.set c _)[c]?=_
  rw [List.getElem?_set_self hlt]
 have hp2:(s.pop.send c n).2.procs[p]?=some y:=by rw [es];exact hp
 have hc2:(s.pop.send c n).2.cur=some p:=by rw [es];exact hc
 have hcl2:(s.pop.send c n).2.chans.length≤1000000000000:=by rw [es];show (s.chans.set c _).length≤_;rw [List.length_set];exact hcl
 have hlt2:c<(s.pop.send c n).2.chans.length:=(List.getElem?_eq_some_iff.1 hx2).1
 clear h hs hx hr hc hp es
 generalize (s.pop.send (c:Int) n).2=s2 at *
 rw [ch_get hx2,setCh_nat]
 have more:∀ (w2:World) (ρ2:Nat->MR) (V2:MV),MsAt w2 mb ρ2 C V2 s2->∃ g cap pb,s2.chans.length≤cap∧cap≤maxLen∧w2.cell? ⟨mb,3,none⟩=some (.slice (some ⟨g,0,none⟩) s2.chans.length cap)∧w2.cell? ⟨mb,5,none⟩=some (.pointer (some ⟨pb,0,none⟩))∧(∃ o,w2.cell? ⟨g,c * 3+2,none⟩=some (.pointer o))∧(∀ k,w2.frozen? ⟨g,k,none⟩=false)∧g≠mb ∧
   Calls Tryz.prog 160 #[.pointer (some ⟨mb,0,none⟩),.func (.func 161) #[.pointer (some ⟨pb,0,none⟩)] #[]] (w2.setCell ⟨g,c * 3+2,none⟩ (.pointer (some ⟨pb,0,none⟩))).drew fun e w'=>e=.returned (.tuple #[])∧MsPost mb C ρ2 V2 w2 (({ s2 with chans:=s2.chans.set c { x with nums:=x.nums++[n],wr:=some p } }:MS).wait p 1) w':=by
  intro w2 ρ2 V2 k2
  obtain⟨g,cap,hv,h1,h2,c3,d0,d1,d2,fz,ne⟩:=mchan_at k2 hx2
  have c5:w2.cell? ⟨mb,5,none⟩=some (V2.ptrO s2.cur):=cell_at (k2.blk (fun x=>x)) 5
  rw [hc2] at c5
  have m:=mchan_set k2 hx2 hv 2 (by omega) (.pointer (some ⟨V2.pb.getD p 0,0,none⟩)) (x':={ x with nums:=x.nums++[n],wr:=some p }) rfl rfl
  refine⟨g,cap,V2.pb.getD p 0,h1,h2,c3,c5,⟨_,d2⟩,fz,ne,?_⟩
  have wt:=mwait_any (s:={ s2 with chans:=s2.chans.set c { x with nums:=x.nums++[n],wr:=some p } }) hc2 hp2 1 (.inl rfl) _ m.1.drew
  refine wt.mono ?_
  rintro e w' ⟨he,k',f'⟩
  exact⟨he,_,_,k',m.2.drew.trans f'⟩
 have More:=hide more
 clear hx2 hp2 hc2 more
 generalize (({ s2 with chans:=s2.chans.set c { x with nums:=x.nums++[n],wr:=some p } }:MS).wait p 1)=s3 at *
 generalize s2.chans.length=ncl at *
 go_enter Tryz.func97,Tryz.ntmps97
 go_wp2_with (first|(go_at_call 159;refine T.out.mono ?_;rintro e w1 ⟨rfl,v1,k1,f1⟩;have K1:=hide k1;have F1:=hide f1;clear k1 f1)|(go_at_call 59;refine (S.out _ _ K1.out).mono ?_;rintro e w2 ⟨rfl,ρ2,V2,k2,f2⟩;obtain⟨g,cap,pb,m1,m2,c3,c5,⟨oo,dd⟩,fz,ne,wt⟩:=More.out _ _ _ k2;have Wt:=hide wt;have F2:=hide (F1.out.trans f2);clear k2 f2 wt))
 have ne':mb≠g:=fun e=>ne e.symm
 go_region
 all_goals
  go_wp2_with (go_at_call 160;refine Wt.out.mono ?_;rintro e w3 ⟨rfl,ρ3,V3,k3,f3⟩;have K3:=hide k3;have F3:=hide (F2.out.trans f3);clear k3 f3)
  go_end0
  exact⟨rfl,_,_,K3.out,F3.out⟩
end
end Go.Proofs.YtnhidaamfnjdjaaGreatDoor
namespace Go.Proofs.YtnhidaamfnjdjaaGreatDoor
open Go.RowKit Go.Maps
section
variable {mb : Nat} {ρ : Nat → MR} {C : CM} {V : MV} {s : MS}
theorem mopn_app {w w4:World} {O:Obj} (h:MsAt w mb ρ C V s) {p:Nat} {x:PPr} {v':Value} {br:Int×Int×Int} (hp:s.procs[p]?=some x)
  (g4:(w.alloc O).drew.grownBy w4 (V.ov.getD p (.slice none 0 0)).ownBlock) (o4:w4.ownsRow 0 207 3 v' (x.opn.length+1) (waysV x.opn++wayV br)) (b4:v'.ownBlock=(V.ov.getD p (.slice none 0 0)).ownBlock∨∃ g,v'.ownBlock=some g∧(w.alloc O).drew.heap.size≤g) :
  MsAt (w4.setCell ⟨V.pb.getD p 0,4,none⟩ v') mb (newR w.heap.size ρ v' (.opn p)) C { V with ov:=V.ov.set p v' } (s.setPr p { x with opn:=x.opn++[br] })∧MsGo V { V with ov:=V.ov.set p v' } ρ (newR w.heap.size ρ v' (.opn p)) w (w4.setCell ⟨V.pb.getD p 0,4,none⟩ v'):=by
 have q:=h.proc p x hp (fun x=>x)
 have o:=h.opn p x hp (fun x=>x)
 have hpl:=lt_of_at q.1
 have hsz:(w.alloc O).drew.heap.size=w.heap.size+1:=by show (w.alloc O).heap.size=_;simp
 have fr:MsFr (fun r=>r=.proc p∨r=.opn p) ρ (newR w.heap.size ρ v' (.opn p)) w (w4.setCell ⟨V.pb.getD p 0,4,none⟩ v'):=by
  refine⟨g4.os,g4.tape,g4.output,?_,fun k hk hA=>⟨?_,newR_old hk⟩⟩
  ·have:=g4.size
   have h2:(w4.setCell ⟨V.pb.getD p 0,4,none⟩ v').heap.size=w4.heap.size:=by simp
   omega
  ·rw [Below.heap_setCell _ _ _ _ (fun e=>hA (.inl (by have:k=V.pb.getD p 0:=e;rw [this];exact q.2))),g4.block k (by omega) (fun e=>hA (.inr (o.2 k e.symm)))]
   exact Below.heap_alloc w O k hk
 refine⟨mopn_put h hp fr (by rw [newR_old h.rb.2];exact h.rb.1) ?_ (by rw [newR_old hpl];exact q.2) ?_ ?_,fr.weak (fun r hr e=>by rcases hr with hr|hr <;> (rw [hr] at e;cases e)),List.prefix_rfl⟩
 ·rw [g4.block _ (by omega) (fun e=>by have:=o.2 _ e.symm;rw [q.2] at this;cases this)]
  exact Below.heap_alloc w O _ hpl
 ·rw [waysV_append,List.length_append,List.length_singleton]
  exact o4
 ·intro g hg
  rcases b4 with e|⟨g',e,hge⟩
  ·have hol:g<w.heap.size:=own_lt o.1 (by rw [<-e];exact hg)
   rw [newR_old hol]
   exact o.2 g (by rw [<-e];exact hg)
  ·rw [e] at hg
   injection hg with hg
   subst hg
   unfold newR
   rw [if_neg (by omega),if_pos e]
set_option maxRecDepth 20000 in
set_option maxHeartbeats 4000000 in
theorem mopen_any {p i:Nat} {x:PPr} (hc:s.cur=some p) (hp:s.procs[p]?=some x) (hi:i<C.br.length) (hbl:C.br.length≤1000000) (w:World) (h:MsAt w mb ρ C V s) (hol:x.opn.length+1≤1000000) :
  Calls Tryz.prog 98 #[.pointer (some ⟨mb,0,none⟩),.int .i64 i] w fun e w'=>e=.returned (.tuple #[])∧MsPost mb C ρ V w (s.setPr p { x with opn:=x.opn++[C.br.getD i (0,0,0)] }) w':=by
 have q:=h.proc p x hp (fun x=>x)
 have o:=h.opn p x hp (fun x=>x)
 obtain⟨oa,oc,hov⟩:=ownsRow_len o.1
 have c5:w.cell? ⟨mb,5,none⟩=some (V.ptrO s.cur):=cell_at (h.blk (fun x=>x)) 5
 rw [hc] at c5
 unfold MV.ptrO at c5
 simp only [Option.map_some] at c5
 have d4:w.cell? ⟨V.pb.getD p 0,4,none⟩=some (.slice oa x.opn.length oc):=by rw [<-hov];exact cell_at q.1 4
 have c1:w.cell? ⟨mb,1,none⟩=some V.br:=cell_at (h.blk (fun x=>x)) 1
 have qb:=(h.brs (fun x=>x)).1
 obtain⟨gb,capb,curb,hvb,hgb,hb1,hb2,hb3,hb4⟩:=row_pos qb (by omega)
 have hw:=waysV_at C.br i hi
 have a0:w.cell? ⟨gb,i * 3,none⟩=some (.int .i64 (C.br.getD i (0,0,0)).1):=ownsRow_cell hgb hb4 hw.1
 have a1:w.cell? ⟨gb,i * 3+1,none⟩=some (.int .i64 (C.br.getD i (0,0,0)).2.1):=ownsRow_cell hgb hb4 hw.2.1
 have a2:w.cell? ⟨gb,i * 3+2,none⟩=some (.int .i64 (C.br.getD i (0,0,0)).2.2):=ownsRow_cell hgb hb4 hw.2.2
 rw [hvb] at c1
 have hpl:=lt_of_at q.1
 have hop:(V.ov.getD p (.slice none 0 0)).ownBlock≠some (V.pb.getD p 0):=fun e=>by have:=o.2 _ e;rw [q.2] at this;cases this
 have hom:(V.ov.getD p (.slice none 0 0)).ownBlock≠some mb:=fun e=>by have:=o.2 _ e;rw [h.rb.1] at this;cases this
 generalize C.br.getD i (0,0,0)=br at *
 have law:∀ (w4:World),(w.alloc (.cells #[.int .i64 br.1,.int .i64 br.2.1,.int .i64 br.2.2] 207)).drew.grownBy w4 (V.ov.getD p (.slice none 0 0)).ownBlock->w4.cell? ⟨mb,5,none⟩=some (.pointer (some ⟨V.pb.getD p 0,0,none⟩))∧w4.heap[V.pb.getD p 0]?=some (.cells (V.proc mb p x) 108):=by
  intro w4 g4
  have hsz:(w.alloc (.cells #[.int .i64 br.1,.int .i64 br.2.1,.int .i64 br.2.2] 207)).drew.heap.size=w.heap.size+1:=by show (w.alloc _).heap.size=_;simp
  refine⟨?_,?_⟩
  ·have hmb:=h.rb.2
   have e:w4.heap[mb]?=some (.cells (V.mach s) 102):=by
    rw [g4.block _ (by omega) (fun e=>hom e.symm)]
    show (w.alloc _).heap[mb]?=_
    rw [Below.heap_alloc _ _ _ hmb]
    exact h.blk (fun x=>x)
   rw [<-c5,cell_at e,cell_at (h.blk (fun x=>x))]
  rw [g4.block _ (by omega) (fun e=>hop e.symm)]
  show (w.alloc _).heap[V.pb.getD p 0]?=_
  rw [Below.heap_alloc _ _ _ hpl]
  exact q.1
 have fin:∀ (v':Value) (w4:World),(w.alloc (.cells #[.int .i64 br.1,.int .i64 br.2.1,.int .i64 br.2.2] 207)).drew.grownBy w4 (V.ov.getD p (.slice none 0 0)).ownBlock->w4.ownsRow 0 207 3 v' (x.opn.length+1) (waysV x.opn++wayV br)->(v'.ownBlock=(V.ov.getD p (.slice none 0 0)).ownBlock∨∃ g,v'.ownBlock=some g∧(w.alloc (.cells #[.int .i64 br.1,.int .i64 br.2.1,.int .i64 br.2.2] 207)).drew.heap.size≤g)->MsPost mb C ρ V w (s.setPr p { x with opn:=x.opn++[br] }) (w4.setCell ⟨V.pb.getD p 0,4,none⟩ v'):=fun v' w4 g4 o4 b4=>⟨_,_,mopn_app h hp g4 o4 b4⟩
 have pc:∀ (w4:World),w4.heap[V.pb.getD p 0]?=some (.cells (V.proc mb p x) 108)->w4.cell? ⟨V.pb.getD p 0,4,none⟩=some (V.ov.getD p (.slice none 0 0)):=fun w4 hw4=>cell_at hw4 4
 rw [hov] at law fin pc
 have o1:=o.1
 rw [hov] at o1
 have b5:(w.alloc (.cells #[.int .i64 br.1,.int .i64 br.2.1,.int .i64 br.2.2] 207)).cell? ⟨mb,5,none⟩=some (.pointer (some ⟨V.pb.getD p 0,0,none⟩)):=by rw [<-c5,cell_at (at_alloc (h.blk (fun x=>x)) _),cell_at (h.blk (fun x=>x))]
 have e4:(w.alloc (.cells #[.int .i64 br.1,.int .i64 br.2.1,.int .i64 br.2.2] 207)).cell? ⟨V.pb.getD p 0,4,none⟩=some (.slice oa x.opn.length oc):=by rw [<-d4,cell_at (at_alloc q.1 _),cell_at q.1]
 have Law:=hide law;have Fin:=hide fin;have Pc:=hide pc;have O1:=hide o1
 clear h q o qb hgb hb3 hb4 hw hov hvb hop hom law fin pc o1 hc hp
 generalize s.setPr p { x with opn:=x.opn++[br] }=s2 at *
 generalize hcs:V.proc mb p x=pcs at *
 clear hcs
 generalize V.pb.getD p 0=pb at *
 generalize x.opn=ol at *
 generalize C.br.length=nb at *
 go_enter Tryz.func98,Tryz.ntmps98
 go_wp2_with fail
 go_region_law (refine step_appendM (by decide) Tryz.underlying87 wayInfo rfl (by decide) rfl _ _ rfl (.slice oa ol.length oc) ol.length (waysV ol) (by simp [Act.eval]) (by exact (ownsRow_frame O1.out (fun _ _=>rfl)).alloc _) ⟨w.heap.size,0,none⟩ 1 1 (wayV br) (by simp [Act.eval]) rfl (by exact row_new _ _ rfl _ _) (wayV_one br) hol ?_;intro v' w4 o4 g4 b4;obtain⟨va',vc',hv'⟩:=ownsRow_len o4;subst hv';have hv5:=(Law.out _ g4).1;have hv4:=(Law.out _ g4).2;have f4:=Pc.out _ hv4;have z4:∀ i,w4.frozen? ⟨pb,i,none⟩=false:=(fun i=>frozen_at hv4 i);have R:=hide (Fin.out _ _ g4 o4 b4);clear o4 g4 b4 hv4)
 all_goals
  go_wp2_with fail
  go_end0
  exact⟨rfl,R.out⟩
end
end Go.Proofs.YtnhidaamfnjdjaaGreatDoor
