import Derived.Test.YtnhidaamfnjdjaaGreatDoorZShaE
import Derived.Test.YtnhidaamfnjdjaaGreatDoorZPure
namespace Go.Proofs.YtnhidaamfnjdjaaGreatDoor
open Go.RowKit Go.Maps
set_option maxRecDepth 20000 in
set_option maxHeartbeats 1000000 in
theorem found_any (w:World) (sb:Nat) (s line:Int) (h:w.heap[sb]?=some (.cells #[.int .i64 s] 131)) :
  Calls Tryz.prog 124 #[.pointer (some ⟨sb,0,none⟩),.int .i64 line] w fun e w'=>e=.returned (.tuple #[])∧w'.heap[sb]?=some (.cells #[.int .i64 (foundF s line)] 131)∧w.grownBy w' (some sb):=by
 have c0:w.cell? ⟨sb,0,none⟩=some (.int .i64 s):=cell_at h 0
 have fz:=frozen_at h 0
 have gs:Hid (w.grownBy (w.setCell ⟨sb,0,none⟩ (.int .i64 line)) (some sb)):=⟨rfl,rfl,rfl,by simp [World.setCell],fun k hk hne=>Below.heap_setCell _ _ _ _ (by simpa using hne)⟩
 have hs:Hid ((w.setCell ⟨sb,0,none⟩ (.int .i64 line)).heap[sb]?=some (.cells #[.int .i64 line] 131)):=at_setCell h 0 _
 have H:=hide h
 clear h
 by_cases hz:s=0∨line<s
 ·have hF:foundF s line=line:=by unfold foundF;rw [if_pos hz]
  rw [hF]
  clear hF
  by_cases h0:s=0
  ·subst h0
   go_enter Tryz.func124,Tryz.ntmps124
   go_wp2
   go_end0
   exact⟨rfl,hs.out,gs.out⟩
  ·have hl:line<s:=by omega
   go_enter Tryz.func124,Tryz.ntmps124
   go_wp2
   all_goals go_end0
   all_goals exact⟨rfl,hs.out,gs.out⟩
 ·have hF:foundF s line=s:=by unfold foundF;rw [if_neg hz]
  rw [hF]
  clear hF
  have h0:¬ s=0:=by omega
  have hl:¬ line<s:=by omega
  go_enter Tryz.func124,Tryz.ntmps124
  go_wp2
  all_goals go_end0
  all_goals exact⟨rfl,H.out,World.grownBy.refl _ _⟩
end Go.Proofs.YtnhidaamfnjdjaaGreatDoor
namespace Go.Proofs.YtnhidaamfnjdjaaGreatDoor
open Go.RowKit Go.Maps
def mapV (b:Nat):Value:=.map (some b)
set_option maxRecDepth 20000 in
set_option maxHeartbeats 2000000 in
theorem anyTwo_any (w:World) (sv:Value) (us:List (List (Int×Nat))) (bs:List Nat) (hl:bs.length=us.length) (ho:w.ownsRow 0 133 1 sv us.length (bs.map mapV)) (hm:∀ i,i<us.length->MapIs w (bs.getD i 0) (us.getD i [])) (hk:∀ u∈us,UseOk u) :
  Calls Tryz.prog 123 #[sv] w fun e w'=>e=.returned (.bool (anyTwo us))∧w.grownBy w' none:=by
 obtain⟨sa,cap,rfl⟩:=ownsRow_len ho
 have hun:us.length≤9223372036854775807:=by
  rcases ho.2 with ⟨_,h0⟩|⟨g,cap,cur,_,_,_,h1,h2,_⟩
  ·omega
  ·exact Nat.le_trans h1 h2
 have shape:us.length > 0->∃ g,sa=some ⟨g,0,none⟩∧us.length≤cap∧(∀ i,i<us.length->w.cell? ⟨g,i,none⟩=some (.map (some (bs.getD i 0)))):=by
  intro hp
  obtain⟨g,cap',cur,e,hg,h1,h2,h3,h4⟩:=ownsRow_shape ho hp
  injection e with e1 _ e3
  subst e3
  refine⟨g,e1,h1,?_⟩
  intro i hi
  refine ownsRow_cell hg h4 ?_
  rw [getD_lt _ _ _ (by omega)]
  simp [hl,hi,mapV]
 have hk':∀ i,UseOk (us.getD i []):=by
  intro i
  rcases Nat.lt_or_ge i us.length with h|h
  ·rw [getD_lt _ _ _ h];exact hk _ (List.getElem_mem h)
  ·rw [getD_ge _ _ _ h];intro p hp;cases hp
 have Hs:=hide shape;have Hm:=hide hm;have Hk:=hide hk'
 clear shape hm hk hk' ho hl
 generalize hA:anyTwo us=A
 have HA:=hide hA
 clear hA
 go_enter Tryz.func123,Tryz.ntmps123
 go_wp2_with fail
 go_loopw [3,4,6,9] (fun _ _ _ x wr=>∃ i:Nat,i≤us.length∧x=.int .i64 i∧(∀ i',i'<i->∀ j,j<i'->clashL (us.getD i' []) (us.getD j [])=false)∧w.grownBy wr none) (fun _ _ _ x _=>us.length - (intOf x).toNat)
 case atStart=>exact⟨0,Nat.zero_le _,rfl,fun i' h=>by omega,World.grownBy.refl _ _⟩
 case round =>
  obtain⟨i,hi,rfl,hno,hg⟩:=hrel
  have Hno:=hide hno;have Hg:=hide hg
  clear hno hg
  by_cases hin:i<us.length
  ·obtain⟨g,rfl,hcap,hc⟩:=Hs.out (by omega)
   have ci:=cell_grown (hc i hin) Hg.out (by simp)
   have hii:(i:Int)<(us.length:Int):=by omega
   have hic:i≤cap:=by omega
   have Hc:=hide hc
   clear hc
   go_wp2_with fail
   go_loopw [6,18] (fun _ y wr'=>∃ j:Nat,j≤i∧y=.int .i64 j∧(∀ j',j'<j->clashL (us.getD i []) (us.getD j' [])=false)∧w.grownBy wr' none) (fun _ y _=>i - (intOf y).toNat)
   case atStart=>exact⟨0,Nat.zero_le _,rfl,fun i' h=>by omega,Hg.out⟩
   case round =>
    obtain⟨j,hj,rfl,hnj,hg2⟩:=hrel
    have Hnj:=hide hnj;have Hg2:=hide hg2
    clear hnj hg2
    by_cases hji:j<i
    ·have cj:=cell_grown (Hc.out j (by omega)) Hg2.out (by simp)
     have m1:=MapIs.kept (Hm.out i hin) Hg2.out (by simp)
     have m2:=MapIs.kept (Hm.out j (by omega)) Hg2.out (by simp)
     have M1:=hide m1;have M2:=hide m2
     clear m1 m2
     have hjj:(j:Int)<(i:Int):=by omega
     cases hcl:clashL (us.getD i []) (us.getD j []) with
     | true =>
      go_wp2_with (go_at_call 183;refine (usesClash_any _ _ _ _ _ M1.out M2.out (Hk.out i) (Hk.out j)).mono ?_;rw [hcl];rintro e w3 ⟨rfl,k3⟩;have K3:=hide k3;clear k3)
      go_ret
      have:=HA.out
      rw [anyTwo_true us i j hin hji hcl] at this
      subst this
      exact⟨rfl,Hg2.out.andThen K3.out (fun j hj=>by cases hj)⟩
     | false =>
      go_wp2_with (go_at_call 183;refine (usesClash_any _ _ _ _ _ M1.out M2.out (Hk.out i) (Hk.out j)).mono ?_;rw [hcl];rintro e w3 ⟨rfl,k3⟩;have K3:=hide k3;clear k3)
      go_roundw
      case rel =>
       refine⟨j+1,by omega,by go_num,?_,Hg2.out.andThen K3.out (fun j hj=>by cases hj)⟩
       intro j' hj'
       by_cases e:j'=j
       ·subst e;exact hcl
       ·exact Hnj.out j' (by omega)
      case measure=>simp [intOf];omega
    ·have hje:j=i:=by omega
     subst hje
     go_wp2_with fail
     go_roundw
     case rel =>
      refine⟨j+1,by omega,by go_num,?_,Hg2.out⟩
      intro i' hi'
      by_cases e:i'=j
      ·subst e;exact Hnj.out
      ·exact Hno.out i' (by omega)
     case measure=>simp [intOf];omega
  ·have hie:i=us.length:=by omega
   subst hie
   go_wp2_with fail
   go_ret
   have:=HA.out
   rw [anyTwo_false us Hno.out] at this
   subst this
   exact⟨rfl,Hg.out⟩
end Go.Proofs.YtnhidaamfnjdjaaGreatDoor
namespace Go.Proofs.YtnhidaamfnjdjaaGreatDoor
open Go.RowKit Go.Maps
theorem TreeAt.grown {w w':World} {ρ:Nat->Role} {ns:List PNode} {ms:List NM} (h:TreeAt w ρ ns ms) {row:Option Nat} (hg:w.grownBy w' row) (hr:∀ j,row=some j->ρ j=.junk):TreeAt w' ρ ns ms :=
 h.frame hg.size (fun b i hb hrole=>⟨hg.block b hb (by intro e;have:=hr b e.symm;rcases hrole with h|h|h <;> rw [this] at h <;> cases h),rfl⟩)
def ShareSaid (ρ:Nat->Role) (sb:Nat) (ns:List PNode) (ms:List NM) (f:Nat):Prop:=∀ (w:World) (s:Int) (i:Nat) (m:NM),TreeAt w ρ ns ms->i<ns.length->ms[i]?=some m->ns.length - i≤f->w.heap[sb]?=some (.cells #[.int .i64 s] 131) ->
 Calls Tryz.prog 64 #[.pointer (some ⟨sb,0,none⟩),.pointer (some ⟨m.blk,0,none⟩)] w fun e w'=>∃ b,e=.returned (.map (some b))∧w.heap.size≤b∧MapIs w' b (shareF ns f s i).1∧w'.heap[sb]?=some (.cells #[.int .i64 (shareF ns f s i).2] 131)∧w.grownBy w' (some sb)
structure LoopS (w:World) (sb:Nat) (n:PNode) (q:List (List (Int×Nat))×Int) (b0:Nat) (sv:Value) (bs:List Nat) (wr:World):Prop where
 len:bs.length=q.1.length
 own:wr.ownsRow 0 133 1 sv q.1.length (bs.map mapV)
 ownge:∀ g,sv.ownBlock=some g->w.heap.size≤g∧g≠b0∧g∉bs
 maps:∀ i,i<q.1.length->MapIs wr (bs.getD i 0) (q.1.getD i [])
 bsge:∀ b∈bs,w.heap.size≤b∧b≠b0
 all:MapIs wr b0 (ownU n++q.1.flatten)
 b0ge:w.heap.size≤b0
 cell:wr.heap[sb]?=some (.cells #[.int .i64 q.2] 131)
 grown:w.grownBy wr (some sb)
theorem LoopS.mid {w:World} {sb:Nat} {n:PNode} {q:List (List (Int×Nat))×Int} {b0:Nat} {sv:Value} {bs:List Nat} {wr w2 w4:World} (L:LoopS w sb n q b0 sv bs wr) (hlt:sb<w.heap.size) {b:Nat} {u:List (Int×Nat)} (hb:wr.heap.size≤b)
  (m2:MapIs w2 b u) (g2:wr.grownBy w2 (some sb)) {o:Obj} (g4:(w2.alloc o).grownBy w4 sv.ownBlock):MapIs w4 b0 (ownU n++q.1.flatten)∧MapIs w4 b u∧b0≠b:=by
 have h0:=L.all.lt
 have h1:=L.b0ge
 refine⟨MapIs.kept (MapIs.kept (MapIs.kept L.all g2 (by simp;omega)) (World.grownBy_alloc w2 o none) (by simp)) g4 ?_,MapIs.kept (MapIs.kept m2 (World.grownBy_alloc w2 o none) (by simp)) g4 ?_,by omega⟩
 ·intro e;exact (L.ownge b0 e.symm).2.1 rfl
 ·intro e
  have:=(L.own.lt b e.symm).2
  omega
theorem LoopS.step {w:World} {sb:Nat} {n:PNode} {q:List (List (Int×Nat))×Int} {b0:Nat} {sv v':Value} {bs:List Nat} {wr w2 w4 w5:World} (L:LoopS w sb n q b0 sv bs wr) (hlt:sb<w.heap.size) {b:Nat} {u:List (Int×Nat)} {s':Int} (hb:wr.heap.size≤b)
  (m2:MapIs w2 b u) (c2:w2.heap[sb]?=some (.cells #[.int .i64 s'] 131)) (g2:wr.grownBy w2 (some sb)) {o:Obj}
  (own4:w4.ownsRow 0 133 1 v' (q.1.length+1) (bs.map mapV++[mapV b])) (g4:(w2.alloc o).grownBy w4 sv.ownBlock) (b4:v'.ownBlock=sv.ownBlock∨∃ g,v'.ownBlock=some g∧(w2.alloc o).heap.size≤g)
  (m5:MapIs w5 b0 ((ownU n++q.1.flatten)++u)) (g5:w4.grownBy w5 (some b0)):LoopS w sb n (q.1++[u],s') b0 v' (bs++[b]) w5:=by
 obtain⟨mm1,mm2,mm3⟩:=L.mid hlt hb m2 g2 g4
 have h0:=L.all.lt
 have h1:=L.b0ge
 have hz2:=g2.size
 have hbl:=m2.lt
 have vge:∀ g,v'.ownBlock=some g->w.heap.size≤g∧g≠b0∧g∉bs∧g≠b:=by
  intro g hg
  rcases b4 with e|⟨g',e,hl⟩
  ·rw [e] at hg
   have h3:=L.ownge g hg
   have h4:=(L.own.lt g hg).2
   exact⟨h3.1,h3.2.1,h3.2.2,by omega⟩
  ·rw [e] at hg;injection hg with hg;subst hg
   simp only [World.size_alloc] at hl
   have hz:=L.grown.size
   refine⟨by omega,by omega,?_,by omega⟩
   intro hm
   obtain⟨i,hi,e⟩:=List.getElem_of_mem hm
   have:=(L.maps i (by rw [<-L.len];exact hi)).lt
   rw [getD_lt _ _ _ hi,e] at this
   omega
 have old:∀ b'∈bs,∀ u',MapIs wr b' u'->MapIs w5 b' u':=by
  intro b' hb' u' hm
  have h3:=L.bsge b' hb'
  refine MapIs.kept (MapIs.kept (MapIs.kept (MapIs.kept hm g2 (by simp;omega)) (World.grownBy_alloc w2 o none) (by simp)) g4 ?_) g5 (by simpa using h3.2)
  intro e
  exact (L.ownge b' e.symm).2.2 hb'
 refine⟨by simp [L.len],?_,?_,?_,?_,?_,h1,?_,?_⟩
 ·have:w5.ownsRow 0 133 1 v' (q.1.length+1) (bs.map mapV++[mapV b]):=ownsRow_frame own4 (fun g hg=>g5.block g (own4.lt g hg).2 (by simpa using (vge g hg).2.1))
  simpa using this
 ·intro g hg
  have:=vge g hg
  exact⟨this.1,this.2.1,by simp [this.2.2.1,this.2.2.2]⟩
 ·intro i hi
  simp only [List.length_append,List.length_singleton] at hi
  by_cases hl:i<q.1.length
  ·have hl':i<bs.length:=by rw [L.len];exact hl
   have hm:=L.maps i hl
   have e1:(bs++[b]).getD i 0=bs.getD i 0:=by rw [getD_lt _ _ _ (by simp;omega),getD_lt _ _ _ hl',List.getElem_append_left hl']
   have e2:(q.1++[u]).getD i []=q.1.getD i []:=by rw [getD_lt _ _ _ (by simp;omega),getD_lt _ _ _ hl,List.getElem_append_left hl]
   rw [e1,e2]
   refine old _ ?_ _ hm
   rw [getD_lt _ _ _ hl'];exact List.getElem_mem hl'
  ·have:i=q.1.length:=by omega
   subst this
   have e1:(bs++[b]).getD q.1.length 0=b:=by rw [<-L.len];simp
   have e2:(q.1++[u]).getD q.1.length []=u:=by simp
   rw [e1,e2]
   exact MapIs.kept mm2 g5 (by simpa using mm3.symm)
 ·intro b' hb'
  simp only [List.mem_append,List.mem_singleton] at hb'
  rcases hb' with hb'|rfl
  ·exact L.bsge b' hb'
  ·have:=L.grown.size
   exact⟨by omega,mm3.symm⟩
 ·have e:ownU n++(q.1++[u]).flatten=(ownU n++q.1.flatten)++u:=by simp
  show MapIs w5 b0 (ownU n++(q.1++[u]).flatten)
  rw [e];exact m5
 ·have hs2:sb<(w2.alloc o).heap.size:=by have:=L.grown.size;simp;omega
  rw [g5.block sb (Nat.lt_of_lt_of_le hs2 g4.size) (by simp;omega),g4.block sb hs2 (by
   intro e
   have:=(L.ownge sb e.symm).1
   omega),Below.heap_alloc _ _ _ (by have:=L.grown.size;omega)]
  exact c2
 ·have ga:w.grownBy (w2.alloc o) (some sb):=(L.grown.andThen g2 (fun j hj=>.inr hj)).andThen (World.grownBy_alloc w2 o none) (fun j hj=>by cases hj)
  refine (ga.andThen g4 (fun j hj=>.inl (L.ownge j hj).1)).andThen g5 (fun j hj=>by injection hj with hj;subst hj;exact .inl h1)
end Go.Proofs.YtnhidaamfnjdjaaGreatDoor
namespace Go.Proofs.YtnhidaamfnjdjaaGreatDoor
open Go.RowKit Go.Maps
set_option maxRecDepth 20000 in
set_option maxHeartbeats 4000000 in
theorem sproc_any (ρ:Nat->Role) (sb:Nat) (ns:List PNode) (ms:List NM) (hj:ρ sb=.junk) (hup:Up ns) (hok:∀ i,UseOk (ownU (ns.getD i default))) (hfew:∀ i,(ns.getD i default).kids.length≤100000) (f:Nat) (ih:ShareSaid ρ sb ns ms f):ShareSaid ρ sb ns ms (f+1):=by
  intro w s i m ht hi hm hf hs
  rw [shareF_succ]
  generalize hn:ns.getD i default=n
  have hN:=ht.at' i (ns.getD i default) m (by rw [getD_lt _ _ _ hi];simp [hi]) hm
  rw [hn] at hN
  have hokn:UseOk (ownU n):=by rw [<-hn];exact hok i
  have hfn:n.kids.length≤100000:=by rw [<-hn];exact hfew i
  have kin:∀ j (hj:j<n.kids.length),i<n.kids[j]∧n.kids[j]<ns.length:=fun j hj=>hup i _ (by rw [hn];exact List.getElem_mem hj)
  have hlt:=lt_of_at hs
  have hnb:m.blk<w.heap.size:=lt_of_at hN.cells
  have hne:m.blk≠sb:=by intro e;have:=hN.role;rw [e,hj] at this;cases this
  have own1:=own_any w m.blk n m hN.cells hN.expr hN.exlt hokn
  have okf:=shareF_ok ns hok f
  have okq:∀ j,∀ u∈((n.kids.take j).foldl (stepS ns f) ([],s)).1,UseOk u:=fun j=>stepS_ok ns f okf _ _ (by simp)
  have lenq:∀ j,j≤n.kids.length->((n.kids.take j).foldl (stepS ns f) ([],s)).1.length=j:=fun j hj=>by rw [stepS_len];simp;omega
  obtain⟨sa,sc,hsl⟩:=ownsRow_len hN.own
  have HN:=hide hN;have Ht:=hide ht;have Hs:=hide hs;have Own1:=hide own1;have Ih:=hide ih;have Kin:=hide kin;have Okq:=hide okq;have Okf:=hide okf;have Lenq:=hide lenq;have Hsl:=hide hsl
  clear hN ht hs own1 ih kin okq okf lenq hsl hok hup hfew
  generalize hR:restS n (n.kids.foldl (stepS ns f) ([],s))=R
  have HR:=hide hR
  clear hR
  go_enter Tryz.func64,Tryz.ntmps64
  go_wp2_with fail
  refine Own1.out.mono ?_
  rintro e w1 ⟨rfl,mo1,g1⟩
  have c7:w1.cell? ⟨m.blk,7,none⟩=some (.slice sa n.kids.length sc):=cell_grown (by rw [cell_at HN.out.cells 7,<-Hsl.out];rfl) g1 (by simp)
  have Mo1:=hide mo1;have G1:=hide g1
  clear mo1 g1
  go_wp2_with fail
  go_loopw [6,8,9,17] (fun sv _ _ x wr=>∃ (j:Nat) (bs:List Nat),j≤n.kids.length∧x=.int .i64 j∧LoopS w sb n ((n.kids.take j).foldl (stepS ns f) ([],s)) w.heap.size sv bs wr) (fun _ _ _ x _=>n.kids.length - (intOf x).toNat)
  case atStart =>
    refine⟨0,[],Nat.zero_le _,rfl,rfl,World.ownsRow_nil _ 0 _ 1,fun g hg=>by simp [Value.ownBlock] at hg,fun i hi=>by simp at hi,fun b hb=>by simp at hb,by simpa using Mo1.out,Nat.le_refl _,?_,G1.out.but _⟩
    rw [G1.out.block sb hlt (by simp)];exact Hs.out
  case round =>
    obtain⟨j,bs,hjn,rfl,hL⟩:=hrel
    have L:=hide hL
    clear hL
    have Tr:Hid (TreeAt wr ρ ns ms):=Ht.out.grown L.out.grown (fun k hk=>by injection hk with hk;subst hk;exact hj)
    have hnr:wr.heap[m.blk]?=w.heap[m.blk]?:=L.out.grown.block _ hnb (by simpa using hne)
    obtain⟨va,vc,hsv⟩:=ownsRow_len L.out.own
    subst hsv
    rw [Lenq.out j hjn] at *
    by_cases hjk:j<n.kids.length
    · have hk:=Kin.out j hjk
      have hNr:=Tr.out.at' i (ns.getD i default) m (by rw [getD_lt _ _ _ hi];simp [hi]) hm
      rw [hn] at hNr
      obtain⟨g,cap,cur,hg1,hg,hc1,hc2,hc3,hc4⟩:=ownsRow_shape hNr.own (by omega)
      have esl:Value.slice sa n.kids.length sc=.slice (some ⟨g,0,none⟩) n.kids.length cap:=Hsl.out.symm.trans hg1
      injection esl with ea _ ec
      subst ea;subst ec
      obtain⟨mk,hmk,_,hbk⟩:=Tr.out.get (i:=n.kids[j]) hk.2
      have ci:wr.cell? ⟨g,j,none⟩=some (.pointer (some ⟨mk.blk,0,none⟩)):=by
        have:wr.cell? ⟨g,j,none⟩=some (ptrTo ms n.kids[j]):=by
          refine ownsRow_cell hg hc4 ?_
          simp [hjk]
        rw [this];unfold ptrTo;rw [hbk]
      have hjl:(j:Int)<(n.kids.length:Int):=by omega
      have es:=foldl_take_succ (stepS ns f) n.kids ([],s) j hjk
      have Es:=hide es;have Hmk:=hide hmk;have Hcs:=hide L.out.cell
      have hkf:ns.length - n.kids[j]≤f:=by omega
      clear hNr hg1 hg hc1 hc2 hc3 hc4 hbk es hmk
      have hj5:j≤100000:=by omega
      have oku:UseOk (ownU n++((n.kids.take j).foldl (stepS ns f) ([],s)).1.flatten):=hokn.append (UseOk.flat (Okq.out j))
      have lq:=Lenq.out j hjn
      generalize hq:(n.kids.take j).foldl (stepS ns f) ([],s)=q at *
      clear hq
      subst lq
      have okk:=Okf.out q.2 n.kids[q.1.length]
      go_wp2_with (first
        | (go_at_call 64
           refine (Ih.out _ q.2 n.kids[q.1.length] mk Tr.out hk.2 Hmk.out hkf Hcs.out).mono ?_
           clear Hcs
           rintro e w2 ⟨b,rfl,hb,m2,c2,g2⟩
           have own2:w2.ownsRow 0 133 1 (.slice va q.1.length vc) q.1.length (bs.map mapV):=ownsRow_frame L.out.own (fun g hg=>g2.block g (L.out.own.lt g hg).2 (by
             intro e;injection e with e;subst e
             have:=(L.out.ownge _ hg).1;omega))
           have M2:=hide m2;have C2:=hide c2;have G2:=hide g2;have Own2:=hide own2
           clear m2 c2 g2 own2)
        | (at_builtin
           refine wpList_append1 Tryz.underlying174 (z:=.map none) (bytes:=8) (by kernel_rfl) rfl (by decide) rfl _ _ rfl (.slice va q.1.length vc) _ _ rfl (Own2.out.alloc _) ⟨w2.heap.size,0,none⟩ 1 (mapV b) rfl (new_cell _ _ rfl _ _) rfl hj5 ?_
           clear Own2
           intro v' w4 o4 g4 b4
           obtain⟨va',vc',rfl⟩:=ownsRow_len o4
           have mid:=L.out.mid hlt hb M2.out G2.out g4
           have O4:=hide o4;have G4:=hide g4;have B4:=hide b4;have Mid:=hide mid
           clear o4 g4 b4 mid)
        | (go_at_call 122
           refine (useJoin_any _ _ _ _ _ Mid.out.1 Mid.out.2.1 Mid.out.2.2 oku okk).mono ?_
           rintro e w5 ⟨rfl,m5,g5⟩
           have st:=L.out.step hlt hb M2.out C2.out G2.out O4.out G4.out B4.out m5 g5
           have St:=hide st
           clear m5 g5 st)
        | go_in)
      go_roundw
      case rel =>
        refine⟨q.1.length+1,bs++[b],by omega,by go_num,?_⟩
        rw [Es.out]
        exact St.out
      case measure=>simp [intOf];omega
    · have hje:j=n.kids.length:=by omega
      subst hje
      rw [List.take_length] at *
      have okq:=Okq.out n.kids.length
      rw [List.take_length] at okq
      have Okq':=hide okq
      have hall:=L.out.all
      generalize hq:n.kids.foldl (stepS ns f) ([],s)=q at *
      have lq:q.1.length=n.kids.length:=by rw [<-hq,stepS_len];simp
      clear hq
      have hNr:wr.heap[m.blk]?=some (.cells (nodeCells n m) 115):=hnr.trans HN.out.cells
      have k0:wr.cell? ⟨m.blk,0,none⟩=some (.int .i64 n.kind):=by rw [cell_at hNr 0];rfl
      have k1:wr.cell? ⟨m.blk,1,none⟩=some (.int .i64 n.line):=by rw [cell_at hNr 1];rfl
      have two:=anyTwo_any wr (.slice va n.kids.length vc) q.1 bs L.out.len L.out.own L.out.maps Okq'.out
      have Two:=hide two
      have Hall:=hide hall
      clear two hall okq hNr hnr Okq'
      by_cases hk:n.kind=8∨n.kind=9
      · cases hA:anyTwo q.1 with
        | true =>
          have hR:=HR.out
          rw [show restS n q=(ownU n++q.1.flatten,foundF q.2 n.line) by unfold restS;rw [if_pos ⟨hk,hA⟩]] at hR
          have HR':=hide hR
          clear hR HR
          rw [hA] at Two
          rcases hk with hk|hk
          all_goals
            rw [hk] at k0
            go_wp2_with (first
              | (go_at_call 123;refine Two.out.mono ?_;rintro e w6 ⟨rfl,g6⟩;have l6:=cell_grown k1 g6 (by simp);have G6:=hide g6;clear g6)
              | (go_at_call 124;refine (found_any _ sb q.2 n.line ((G6.out.block sb (lt_of_at L.out.cell) (by simp)).trans L.out.cell)).mono ?_;rintro e w7 ⟨rfl,c7',g7⟩;have C7:=hide c7';have G7:=hide g7;clear c7' g7)
              | go_in)
            go_ret
            have e2:=HR'.out
            subst e2
            exact⟨w.heap.size,rfl,Nat.le_refl _,MapIs.kept (MapIs.kept Hall.out G6.out (by simp)) G7.out (by simp;omega),C7.out,(L.out.grown.andThen G6.out (fun j hj=>by cases hj)).andThen G7.out (fun j hj=>.inr hj)⟩
        | false =>
          have hR:=HR.out
          rw [show restS n q=(ownU n++q.1.flatten,q.2) by unfold restS;rw [if_neg (by rw [hA];simp)]] at hR
          have HR':=hide hR
          clear hR HR
          rw [hA] at Two
          rcases hk with hk|hk
          all_goals
            rw [hk] at k0
            go_wp2_with (first
              | (go_at_call 123;refine Two.out.mono ?_;rintro e w6 ⟨rfl,g6⟩;have G6:=hide g6;clear g6)
              | go_in)
            go_ret
            have e2:=HR'.out
            subst e2
            exact⟨w.heap.size,rfl,Nat.le_refl _,MapIs.kept Hall.out G6.out (by simp),(G6.out.block sb (lt_of_at L.out.cell) (by simp)).trans L.out.cell,L.out.grown.andThen G6.out (fun j hj=>by cases hj)⟩
      · have hR:=HR.out
        rw [show restS n q=(ownU n++q.1.flatten,q.2) by unfold restS;rw [if_neg (fun h=>hk h.1)]] at hR
        have HR':=hide hR
        clear hR HR Two
        have hk8:¬ n.kind=8:=fun e=>hk (.inl e)
        have hk9:¬ n.kind=9:=fun e=>hk (.inr e)
        clear hk
        go_wp2_with fail
        go_ret
        have e2:=HR'.out
        subst e2
        exact⟨w.heap.size,rfl,Nat.le_refl _,Hall.out,L.out.cell,L.out.grown⟩
theorem sproc_all (ρ:Nat->Role) (sb:Nat) (ns:List PNode) (ms:List NM) (hj:ρ sb=.junk) (hup:Up ns) (hok:∀ i,UseOk (ownU (ns.getD i default))) (hfew:∀ i,(ns.getD i default).kids.length≤100000):∀ f,ShareSaid ρ sb ns ms f
 | 0=>fun w s i m _ hi _ hf _=>by omega
 | f+1=>sproc_any ρ sb ns ms hj hup hok hfew f (sproc_all ρ sb ns ms hj hup hok hfew f)
set_option maxRecDepth 20000 in
set_option maxHeartbeats 1000000 in
theorem Share_any (w:World) (ρ:Nat->Role) (ns:List PNode) (ms:List NM) (i:Nat) (m:NM) (h:TreeAt w ρ ns ms) (hi:i<ns.length) (hm:ms[i]?=some m) (hup:Up ns) (hok:∀ i,UseOk (ownU (ns.getD i default))) (hfew:∀ i,(ns.getD i default).kids.length≤100000) :
  Calls Tryz.prog 44 #[.pointer (some ⟨m.blk,0,none⟩)] w fun e w'=>e=.returned (.int .i64 (shareF ns ns.length 0 i).2)∧w.grownBy w' none:=by
 let ρ':Nat->Role:=fun k=>if k<w.heap.size then ρ k else .junk
 have hA:TreeAt (w.alloc (.cells #[.int .i64 0] 131)) ρ' ns ms:=h.frame (by simp) (fun b i hb _=>⟨Below.heap_alloc _ _ _ hb,if_pos hb⟩)
 have hj:ρ' w.heap.size=.junk:=if_neg (by omega)
 have hs:=at_new w (.cells #[.int .i64 0] 131)
 have all:=sproc_all ρ' w.heap.size ns ms hj hup hok hfew ns.length (w.alloc (.cells #[.int .i64 0] 131)) 0 i m hA hi hm (by omega) hs
 have All:=hide all
 clear all hA hs h hup hok hfew
 go_enter Tryz.func44,Tryz.ntmps44
 go_wp2_with fail
 refine All.out.mono ?_
 rintro e w2 ⟨b,rfl,hb,m2,c2,g2⟩
 have c0:w2.cell? ⟨w.heap.size,0,none⟩=some (.int .i64 (shareF ns ns.length 0 i).2):=cell_at c2 0
 have G2:=hide g2
 clear m2 c2 g2
 go_wp2
 go_ret
 exact⟨rfl,(World.grownBy_alloc w _ none).andThen G2.out (fun j hj=>by injection hj with hj;left;omega)⟩
end Go.Proofs.YtnhidaamfnjdjaaGreatDoor
namespace Go.Proofs.YtnhidaamfnjdjaaGreatDoor
open Go.RowKit Go.Maps
theorem text_any (text:Bs) (w:World) (hs:text.length≤9223372036854775807) (m:Int) (hm:w.cell? ⟨0,0,none⟩=some (.int .i64 m)):Calls Tryz.prog 42 #[.string ⟨text.toArray⟩] w (TextPost w text):=by
 by_cases h:text.length≤800
 ·exact text_short text w h m hm
 ·exact text_long text w hs (by omega)
theorem below_of {ρ:Nat->Role} {w w1 w2:World} (b:Below w.heap.size w w1) (j:JunkKept ρ w1 w2) (hj:∀ k,k<w.heap.size->ρ k=.junk):Below w.heap.size w w2 :=
 ⟨j.os.trans b.os,j.tape.trans b.tape,j.output.trans b.output,Nat.le_trans b.size j.size,fun k hk=>(j.block k (Nat.lt_of_lt_of_le hk b.size) (hj k hk)).trans (b.block k hk)⟩
theorem below_grown {w w1 w2:World} (b:Below w.heap.size w w1) (g:w1.grownBy w2 none):Below w.heap.size w w2 :=
 ⟨g.os.trans b.os,g.tape.trans b.tape,g.output.trans b.output,Nat.le_trans b.size g.size,fun k hk=>(g.block k (Nat.lt_of_lt_of_le hk b.size) (by simp)).trans (b.block k hk)⟩
end Go.Proofs.YtnhidaamfnjdjaaGreatDoor
