import Derived.Test.YtnhidaamfnjdjaaGreatDoorZPure
import Derived.Test.YtnhidaamfnjdjaaGreatDoorZNamE
import Derived.Deep.RegionHeld3
namespace Go.Proofs.YtnhidaamfnjdjaaGreatDoor
open Go.RowKit
def Rel (w:World) (hv hv':Value):Prop:=hv'.ownBlock=hv.ownBlock∨∃ g,hv'.ownBlock=some g∧w.heap.size≤g
theorem Rel.refl (w:World) (hv:Value):Rel w hv hv:=.inl rfl
theorem Rel.trans {w w1:World} {a b c:Value} (h:Rel w a b) (hz:w.heap.size≤w1.heap.size) (k:Rel w1 b c):Rel w a c:=by
 rcases k with e|⟨g,e,hg⟩
 ·rcases h with e2|⟨g2,e2,hg2⟩
  ·exact .inl (e.trans e2)
  ·exact .inr ⟨g2,e.trans e2,hg2⟩
 ·exact .inr ⟨g,e,by omega⟩
def NmPost (n0:Nat) (w:World) (ρ:Nat->Role) (vb:Nat) (hv:Value) (ms:List NM) (st:RV×List PNode) (w':World):Prop :=
 ∃ hv',NmAt n0 w' ρ vb hv' st.1 st.2 ms∧Rel w hv hv'∧Fr n0 ρ vb hv w w'
theorem NmPost.trans {n0:Nat} {w w1 w2:World} {ρ:Nat->Role} {vb:Nat} {hv hv1:Value} {ms:List NM} {st:RV×List PNode} (hr:Rel w hv hv1) (hf:Fr n0 ρ vb hv w w1) (h:NmPost n0 w1 ρ vb hv1 ms st w2):NmPost n0 w ρ vb hv ms st w2:=by
 obtain⟨hv2,a,b,c⟩:=h
 exact⟨hv2,a,hr.trans hf.size b,hf.trans hr c⟩
def NameSaid (f:Nat):Prop:=∀ (n0:Nat) (w:World) (ρ:Nat->Role) (vb:Nat) (hv:Value) (r:RV) (ns:List PNode) (ms:List NM) (i:Nat) (m:NM),NmAt n0 w ρ vb hv r ns ms->i<ns.length->ms[i]?=some m->Up ns->ns.length - i≤f->0<r.hold.length->r.hold.length+f≤100000 ->
 Calls Tryz.prog 63 #[.pointer (some ⟨vb,0,none⟩),.pointer (some ⟨m.blk,0,none⟩)] w fun e w'=>e=.returned (.tuple #[])∧NmPost n0 w ρ vb hv ms (nameF f (r,ns) i) w'
theorem foldl_take_succ {β:Type} (f:β->Nat->β) (l:List Nat) (x:β) (j:Nat) (h:j<l.length):(l.take (j+1)).foldl f x=f ((l.take j).foldl f x) l[j]:=by
 rw [List.take_succ_eq_append_getElem h,List.foldl_append];rfl
set_option maxHeartbeats 1000000 in
theorem below_any (f:Nat) (ih:NameSaid f) (n0:Nat) (w:World) (ρ:Nat->Role) (vb:Nat) (hv:Value) (r:RV) (ns:List PNode) (ms:List NM) (i:Nat) (m:NM) (h:NmAt n0 w ρ vb hv r ns ms) (hi:i<ns.length) (hm:ms[i]?=some m) (hup:Up ns) (hf:ns.length - i≤f+1) (hpos:0<r.hold.length) (hlim:r.hold.length+f≤100000) :
  Calls Tryz.prog 117 #[.pointer (some ⟨vb,0,none⟩),.pointer (some ⟨m.blk,0,none⟩)] w fun e w'=>e=.returned (.tuple #[])∧NmPost n0 w ρ vb hv ms ((ns.getD i default).kids.foldl (nameF f) (r,ns)) w':=by
 generalize hn:ns.getD i default=n
 have hN:=h.tree.at' i (ns.getD i default) m (by rw [getD_lt _ _ _ hi];simp [hi]) hm
 rw [hn] at hN
 obtain⟨sa,sc,hsl⟩:=ownsRow_len hN.own
 have c7:w.cell? ⟨m.blk,7,none⟩=some (.slice sa n.kids.length sc):=by rw [cell_at hN.cells 7,<-hsl];rfl
 have hkl:n.kids.length≤9223372036854775807:=by
  rcases hN.own.2 with ⟨_,h0⟩|⟨g,cap,cur,_,_,_,h1,h2,_⟩
  ·omega
  ·exact Nat.le_trans h1 h2
 have keep:∀ j,SameShape ns ((n.kids.take j).foldl (nameF f) (r,ns)).2∧((n.kids.take j).foldl (nameF f) (r,ns)).1.hold=r.hold:=fun j =>
  fold_keep (fun x y:RV×List PNode=>SameShape x.2 y.2∧y.1.hold=x.1.hold) (fun x=>⟨SameShape.refl _,rfl⟩) (fun x y z h k=>⟨h.1.trans k.1,k.2.trans h.2⟩) (nameF f) (fun x k=>nameF_keep f x k) _ (r,ns)
 have kin:∀ j (hj:j<n.kids.length),i<n.kids[j]∧n.kids[j]<ns.length:=fun j hj=>hup i _ (by rw [hn];exact List.getElem_mem hj)
 have H:=hide h;have Hn:=hide hn;have Hsl:=hide hsl;have Keep:=hide keep;have Kin:=hide kin;have Ih:=hide ih
 clear h hn hN hsl keep kin ih
 go_enter Tryz.func117,Tryz.ntmps117
 go_wp2_with fail
 go_loopw [5,11] (fun _ x wr=>∃ j:Nat,j≤n.kids.length∧x=.int .i64 j∧NmPost n0 w ρ vb hv ms ((n.kids.take j).foldl (nameF f) (r,ns)) wr) (fun _ x _=>n.kids.length - (intOf x).toNat)
 case atStart=>exact⟨0,Nat.zero_le _,rfl,hv,H.out,Rel.refl _ _,Fr.refl _ _ _ _ _⟩
 case round =>
  obtain⟨j,hj,rfl,hp⟩:=hrel
  obtain⟨hvj,nj,rj,fj⟩:=hp
  have Nj:=hide nj;have Rj:=hide rj;have Fj:=hide fj
  clear nj rj fj
  by_cases hjn:j<n.kids.length
  ·have hsh:=(Keep.out j).1
   have hk:=Kin.out j hjn
   have hkids:(((n.kids.take j).foldl (nameF f) (r,ns)).2.getD i default).kids=n.kids:=by rw [hsh.kids i,Hn.out]
   have hNj:=Nj.out.tree.at' i (((n.kids.take j).foldl (nameF f) (r,ns)).2.getD i default) m (by rw [getD_lt _ _ _ (by rw [hsh.len];exact hi)];simp [hsh.len,hi]) hm
   rw [hkids] at hNj
   obtain⟨g,cap,cur,hg1,hg,hc1,hc2,hc3,hc4⟩:=ownsRow_shape (by have:=hNj.own;rw [hkids] at this;exact this) (by omega)
   have esl:Value.slice sa n.kids.length sc=.slice (some ⟨g,0,none⟩) n.kids.length cap:=Hsl.out.symm.trans hg1
   injection esl with ea _ ec
   subst ea;subst ec
   obtain⟨mk,hmk,_,hbk⟩:=Nj.out.tree.get (i:=n.kids[j]) (by rw [hsh.len];exact hk.2)
   have ci:wr.cell? ⟨g,j,none⟩=some (.pointer (some ⟨mk.blk,0,none⟩)):=by
    have:wr.cell? ⟨g,j,none⟩=some (ptrTo ms n.kids[j]):=by
     refine ownsRow_cell hg hc4 ?_
     simp [hjn]
    rw [this];unfold ptrTo;rw [hbk]
   have hold:((n.kids.take j).foldl (nameF f) (r,ns)).1.hold=r.hold:=(Keep.out j).2
   have a1:0<((n.kids.take j).foldl (nameF f) (r,ns)).1.hold.length:=by rw [hold];exact hpos
   have a2:((n.kids.take j).foldl (nameF f) (r,ns)).1.hold.length+f≤100000:=by rw [hold];exact hlim
   have a3:=hup.shape hsh
   have a4:((n.kids.take j).foldl (nameF f) (r,ns)).2.length - n.kids[j]≤f:=by rw [hsh.len];omega
   have hkl':n.kids[j]<((n.kids.take j).foldl (nameF f) (r,ns)).2.length:=by rw [hsh.len];exact hk.2
   have hjl:(j:Int)<(n.kids.length:Int):=by omega
   have es:=foldl_take_succ (nameF f) n.kids (r,ns) j hjn
   have Es:=hide es;have Hmk:=hide hmk;have A3:=hide a3
   clear hsh hk hkids hNj hg1 hg hc1 hc2 hc3 hc4 hbk hold es hmk a3
   generalize hst:(n.kids.take j).foldl (nameF f) (r,ns)=st at *
   clear hst
   generalize n.kids[j]=kj at *
   go_wp2_with (go_at_call 63;refine (Ih.out n0 _ ρ vb hvj st.1 st.2 ms kj mk Nj.out hkl' Hmk.out A3.out a4 a1 a2).mono ?_;rintro e w2 ⟨rfl,p2⟩;have P2:=hide p2;clear p2)
   go_roundw
   case rel =>
    refine⟨j+1,by omega,by go_num,?_⟩
    rw [Es.out]
    exact P2.out.trans Rj.out Fj.out
   case measure=>simp [intOf];omega
  ·have hje:j=n.kids.length:=by omega
   subst hje
   go_wp2_with fail
   go_end0
   rw [List.take_length] at Nj
   exact⟨rfl,hvj,Nj.out,Rj.out,Fj.out⟩
end Go.Proofs.YtnhidaamfnjdjaaGreatDoor
namespace Go.Proofs.YtnhidaamfnjdjaaGreatDoor
open Go.RowKit
theorem NmAt.drew {n0:Nat} {w:World} {ρ:Nat->Role} {vb:Nat} {hv:Value} {r:RV} {ns:List PNode} {ms:List NM} (h:NmAt n0 w ρ vb hv r ns ms):NmAt n0 w.drew ρ vb hv r ns ms:=h.below (Below.refl _ _).drew
theorem NmAt.node {n0:Nat} {w:World} {ρ:Nat->Role} {vb:Nat} {hv:Value} {r:RV} {ns:List PNode} {ms:List NM} (h:NmAt n0 w ρ vb hv r ns ms) {i:Nat} (hi:i<ns.length) {m:NM} (hm:ms[i]?=some m):NodeAt w ρ ((ns.getD i default).kids.map (ptrTo ms)) i (ns.getD i default) m :=
 h.tree.at' i (ns.getD i default) m (by rw [getD_lt _ _ _ hi];simp [hi]) hm
theorem nm_name {n0:Nat} {w:World} {ρ:Nat->Role} {vb:Nat} {hv:Value} {r:RV} {ns:List PNode} {ms:List NM} (h:NmAt n0 w ρ vb hv r ns ms) {i:Nat} (hi:i<ns.length) {m:NM} (hm:ms[i]?=some m) (hpos:0<r.hold.length) (hlim:r.hold.length≤100000) (ln:Int) (hln:(ns.getD i default).line=ln) :
  Calls Tryz.prog 118 #[.pointer (some ⟨vb,0,none⟩),.pointer (some ⟨m.blk,2,none⟩),.int .i64 15,.int .i64 ln] w fun e w'=>e=.returned (.tuple #[])∧NmAt n0 w' ρ vb hv (nameOf r (ns.getD i default)).1 (ns.set i (nameOf r (ns.getD i default)).2) ms∧Fr n0 ρ vb hv w w':=by
 subst hln
 have hN:=h.node hi hm
 have hl:=h.lt i m hm
 have hge:=h.rv.ge
 refine (resolve_any n0 w vb hv r h.rv hpos hlim m.blk 2 _ _ hN.cells (ns.getD i default).name (ns.getD i default).nd rfl rfl (by omega) (by intro e;have:=(h.rv.hge _ e).1;omega) 15 (ns.getD i default).line).mono ?_
 rintro e w' ⟨rfl,h2,h3,k2⟩
 have:=h.setHead hi hm (nameOf r (ns.getD i default)).2 rfl rfl h3 h2 k2
 exact⟨rfl,this⟩
theorem nm_chan {n0:Nat} {w:World} {ρ:Nat->Role} {vb:Nat} {hv:Value} {r:RV} {ns:List PNode} {ms:List NM} (h:NmAt n0 w ρ vb hv r ns ms) {i:Nat} (hi:i<ns.length) {m:NM} (hm:ms[i]?=some m) (hpos:0<r.hold.length) (hlim:r.hold.length≤100000) (ln:Int) (hln:(ns.getD i default).line=ln) :
  Calls Tryz.prog 118 #[.pointer (some ⟨vb,0,none⟩),.pointer (some ⟨m.blk,4,none⟩),.int .i64 16,.int .i64 ln] w fun e w'=>e=.returned (.tuple #[])∧NmAt n0 w' ρ vb hv (chanOf r (ns.getD i default)).1 (ns.set i (chanOf r (ns.getD i default)).2) ms∧Fr n0 ρ vb hv w w':=by
 subst hln
 have hN:=h.node hi hm
 have hl:=h.lt i m hm
 have hge:=h.rv.ge
 refine (resolve_any n0 w vb hv r h.rv hpos hlim m.blk 4 _ _ hN.cells (ns.getD i default).chan (ns.getD i default).cd rfl rfl (by omega) (by intro e;have:=(h.rv.hge _ e).1;omega) 16 (ns.getD i default).line).mono ?_
 rintro e w' ⟨rfl,h2,h3,k2⟩
 have:=h.setHead hi hm (chanOf r (ns.getD i default)).2 rfl rfl h3 h2 k2
 exact⟨rfl,this⟩
theorem nm_each {n0:Nat} {w:World} {ρ:Nat->Role} {vb:Nat} {hv:Value} {r:RV} {ns:List PNode} {ms:List NM} (h:NmAt n0 w ρ vb hv r ns ms) {i:Nat} (hi:i<ns.length) {m:NM} (hm:ms[i]?=some m) (hpos:0<r.hold.length) (hlim:r.hold.length≤100000) (rbx pbx:Nat) (n1:rbx≠vb) (n2:pbx≠vb)
  (c1:w.cell? ⟨rbx,0,none⟩=some (.pointer (some ⟨vb,0,none⟩))) (c2:w.cell? ⟨pbx,0,none⟩=some (.pointer (some ⟨m.blk,0,none⟩))) (h1:n0≤rbx) (h2:n0≤pbx) :
  Calls Tryz.prog 119 #[.pointer m.ve,cloN rbx pbx] w fun e w'=>e=.returned (.tuple #[])∧NmAt n0 w' ρ vb hv (exprOf r (ns.getD i default)).1 (ns.set i (exprOf r (ns.getD i default)).2) ms∧Fr n0 ρ vb hv w w':=by
 have hN:=h.node hi hm
 have hl:=h.lt i m hm
 have hge:=h.rv.ge
 refine (each_any n0 vb hv rbx pbx m.blk (ns.getD i default).line n1 n2 (by omega) (ns.getD i default).expr w r m.elo m.ehi m.ve h.rv hpos hlim ⟨c1,c2,cell_at hN.cells 1⟩ hN.expr hl.2.1 (by omega) (by omega) ?_ hN.exlt).mono ?_
 ·rintro⟨a,b⟩
  have:=hN.exrole _ a b
  rw [hN.role] at this;cases this
 rintro e w' ⟨rfl,h2,h3,k2⟩
 exact⟨rfl,h.setExpr hi hm _ h3 h2 k2⟩
theorem set_getD {α:Type} (l:List α) (i:Nat) (x d:α) (hi:i<l.length):(l.set i x).getD i d=x:=by
 rw [getD_lt _ _ _ (by simpa using hi)];simp
structure Boxes (w:World) (vb:Nat) (m:NM) (a:Nat):Prop where
 c1:w.cell? ⟨a,0,none⟩=some (.pointer (some ⟨vb,0,none⟩))
 c2:w.cell? ⟨a+1,0,none⟩=some (.pointer (some ⟨m.blk,0,none⟩))
theorem Boxes.fr {w w':World} {vb:Nat} {m:NM} {a n0:Nat} {ρ:Nat->Role} {hv:Value} (h:Boxes w vb m a) (hf:Fr n0 ρ vb hv w w') (h1:n0≤a) (h2:vb<a) (h3:∀ g,hv.ownBlock=some g->g<a∨a+1<g):Boxes w' vb m a :=
 ⟨cell_of_block h.c1 (hf.block a (cell_lt h.c1) (fun h=>by omega) (by omega) (fun e=>by have:=h3 a e;omega)),cell_of_block h.c2 (hf.block (a+1) (cell_lt h.c2) (fun h=>by omega) (by omega) (fun e=>by have:=h3 (a+1) e;omega))⟩
set_option maxHeartbeats 4000000 in
theorem nproc_is3 (f:Nat) (ih:NameSaid f) (n0:Nat) (w:World) (ρ:Nat->Role) (vb:Nat) (hv:Value) (r:RV) (ns:List PNode) (ms:List NM) (i:Nat) (m:NM) (h:NmAt n0 w ρ vb hv r ns ms) (hi:i<ns.length) (hm:ms[i]?=some m) (hup:Up ns) (hf:ns.length - i≤f+1) (hpos:0<r.hold.length) (hlim:r.hold.length+f≤100000) (hk:(ns.getD i default).kind=3) :
  Calls Tryz.prog 63 #[.pointer (some ⟨vb,0,none⟩),.pointer (some ⟨m.blk,0,none⟩)] w fun e w'=>e=.returned (.tuple #[])∧NmPost n0 w ρ vb hv ms (nameF (f+1) (r,ns) i) w':=by
 have hge:=h.rv.ge
 have hlv:=lt_of_at h.rv.cells
 have hl:=h.lt i m hm
 have bA:Below w.heap.size w ((w.alloc (.cells #[.pointer (some ⟨vb,0,none⟩)] 122)).alloc (.cells #[.pointer (some ⟨m.blk,0,none⟩)] 54)):=((Below.refl _ _).alloc (Nat.le_refl _) _).alloc (by simp) _
 have hA:=h.below bA
 have a1:=at_alloc (at_new w (.cells #[.pointer (some ⟨vb,0,none⟩)] 122)) (.cells #[.pointer (some ⟨m.blk,0,none⟩)] 54)
 have a2:=at_new (w.alloc (.cells #[.pointer (some ⟨vb,0,none⟩)] 122)) (.cells #[.pointer (some ⟨m.blk,0,none⟩)] 54)
 simp only [World.size_alloc] at a2
 have hhv:∀ g,hv.ownBlock=some g->g<w.heap.size:=fun g hg=>(h.rv.own.lt g hg).2
 have hNA:=hA.node hi hm
 have e1:nameF (f+1) (r,ns) i=(ns.getD i default).kids.foldl (nameF f) ((exprOf (headOf r (ns.getD i default)).1 (headOf r (ns.getD i default)).2).1,ns.set i (exprOf (headOf r (ns.getD i default)).1 (headOf r (ns.getD i default)).2).2):=by
  have hk':¬ ((ns.getD i default).kind=15∨(ns.getD i default).kind=16):=by rw [hk];decide
  simp only [nameF];rw [if_neg hk']
 have hh:=headOf_same r (ns.getD i default)
 have eh:headOf r (ns.getD i default)=nameOf r (ns.getD i default):=by unfold headOf;rw [if_pos hk]
 rw [e1]
 rw [eh] at hh ⊢
 generalize hn:ns.getD i default=n at *
 have k0:((w.alloc (.cells #[.pointer (some ⟨vb,0,none⟩)] 122)).alloc (.cells #[.pointer (some ⟨m.blk,0,none⟩)] 54)).cell? ⟨m.blk,0,none⟩=some (.int .i64 3):=by rw [<-hk];exact cell_at hNA.cells 0
 have k1:((w.alloc (.cells #[.pointer (some ⟨vb,0,none⟩)] 122)).alloc (.cells #[.pointer (some ⟨m.blk,0,none⟩)] 54)).cell? ⟨m.blk,1,none⟩=some (.int .i64 n.line):=cell_at hNA.cells 1
 have b1:Boxes ((w.alloc (.cells #[.pointer (some ⟨vb,0,none⟩)] 122)).alloc (.cells #[.pointer (some ⟨m.blk,0,none⟩)] 54)) vb m w.heap.size:=⟨cell_at a1 0,cell_at a2 0⟩
 have sz:w.heap.size+2=((w.alloc (.cells #[.pointer (some ⟨vb,0,none⟩)] 122)).alloc (.cells #[.pointer (some ⟨m.blk,0,none⟩)] 54)).heap.size:=by simp
 have H:=hide h;have Ba:=hide bA;have HA:=hide hA;have Hn:=hide hn;have B1:=hide b1;have Hup:=hide hup;have Ih:=hide ih;have Hh:=hide hh
 clear h bA hA hNA hn hk a1 a2 e1 eh b1 hup ih hh
 go_enter Tryz.func63,Tryz.ntmps63
 go_wp2_with fail
 generalize ((w.alloc (.cells #[.pointer (some ⟨vb,0,none⟩)] 122)).alloc (.cells #[.pointer (some ⟨m.blk,0,none⟩)] 54))=wA at Ba HA k0 k1 B1 sz ⊢
 have q1:=B1.out.c1
 have q2:=B1.out.c2
 go_region_held3 (fun w'=>w'.cell? ⟨w.heap.size,0,none⟩=some (.pointer (some ⟨vb,0,none⟩))∧w'.cell? ⟨w.heap.size+1,0,none⟩=some (.pointer (some ⟨m.blk,0,none⟩))∧w'.cell? ⟨m.blk,1,none⟩=some (.int .i64 n.line)) (go_keep)
  (first|(go_at_call 118;refine (nm_name HA.out.drew hi hm hpos (by omega) n.line (by rw [Hn.out])).mono ?_;rw [Hn.out];rintro e w1 ⟨rfl,n1,f1⟩;have bx:=Boxes.fr B1.out (Fr.trans (Fr.below (Below.refl _ _).drew) (.inl rfl) f1) (by omega) (by omega) (fun g hg=>.inl (hhv g hg));have p1:=bx.c1;have p2:=bx.c2;have hx:=(n1.node (by simpa using hi) hm).cells;rw [set_getD _ _ _ _ hi] at hx;have p3:w1.cell? ⟨m.blk,1,none⟩=some (.int .i64 n.line):=cell_at hx 1;have p6:w1.cell? ⟨m.blk,6,none⟩=some (.pointer m.ve):=cell_at hx 6;have N1:=hide n1;have F1:=hide f1;have Bx1:=hide bx;clear n1 f1 bx hx))
 have E1:Hid ((ns.set i (nameOf r n).2).getD i default=(nameOf r n).2):=set_getD _ _ _ _ hi
 have hpos1:0<(nameOf r n).1.hold.length:=by rw [show (nameOf r n).1.hold=r.hold from (resolveF_hold _ _ _ _ _)];exact hpos
 have hlim1:(nameOf r n).1.hold.length+f≤100000:=by rw [show (nameOf r n).1.hold=r.hold from (resolveF_hold _ _ _ _ _)];exact hlim
 go_wp2_with fail
 refine (nm_each N1.out (by simpa using hi) hm hpos1 (by omega) w.heap.size (w.heap.size+1) (by omega) (by omega) Bx1.out.c1 Bx1.out.c2 (by omega) (by omega)).mono ?_
 rw [E1.out]
 rintro e wE ⟨rfl,nE,fE⟩
 rw [List.set_set] at nE
 have bE:=Boxes.fr Bx1.out fE (by omega) (by omega) (fun g hg=>.inl (hhv g hg))
 have p1E:=bE.c1
 have p2E:=bE.c2
 have NE:=hide nE;have FE:=hide fE;have BE:=hide bE
 clear nE fE bE
 have EE:Hid ((ns.set i (exprOf (nameOf r n).1 (nameOf r n).2).2).getD i default=(exprOf (nameOf r n).1 (nameOf r n).2).2):=set_getD _ _ _ _ hi
 have holdE:(exprOf (nameOf r n).1 (nameOf r n).2).1.hold=r.hold:=(eachF_hold' _ _ _).trans (resolveF_hold _ _ _ _ _)
 have shE:SameShape ns (ns.set i (exprOf (nameOf r n).1 (nameOf r n).2).2):=SameShape.set ns i _ (by rw [Hn.out];exact Hh.out.1) (by rw [Hn.out];exact Hh.out.2.1)
 have upE:=Hup.out.shape shE
 have UpE:=hide upE
 clear upE shE
 go_wp2_with fail
 refine (below_any f Ih.out n0 _ ρ vb hv (exprOf (nameOf r n).1 (nameOf r n).2).1 (ns.set i (exprOf (nameOf r n).1 (nameOf r n).2).2) ms i m NE.out (by simpa using hi) hm UpE.out (by simpa using hf) (by rw [holdE];exact hpos) (by rw [holdE];exact hlim)).mono ?_
 rw [EE.out]
 rintro e wB ⟨rfl,pB⟩
 have PB:=hide pB
 clear pB
 go_wp2
 go_end0
 refine⟨rfl,NmPost.trans (Rel.refl _ _) ?_ (show NmPost n0 wE ρ vb hv ms (n.kids.foldl (nameF f) _) wB from ?_)⟩
 ·exact (Fr.trans (Fr.trans (Fr.trans (Fr.below Ba.out) (.inl rfl) (Fr.below (Below.refl _ _).drew)) (.inl rfl) F1.out) (.inl rfl) FE.out)
 ·have:=PB.out
  rw [show (exprOf (nameOf r n).1 (nameOf r n).2).2.kids=n.kids from Hh.out.1] at this
  exact this
end Go.Proofs.YtnhidaamfnjdjaaGreatDoor
namespace Go.Proofs.YtnhidaamfnjdjaaGreatDoor
open Go.RowKit
set_option maxHeartbeats 4000000 in
theorem nproc_is4 (f:Nat) (ih:NameSaid f) (n0:Nat) (w:World) (ρ:Nat->Role) (vb:Nat) (hv:Value) (r:RV) (ns:List PNode) (ms:List NM) (i:Nat) (m:NM) (h:NmAt n0 w ρ vb hv r ns ms) (hi:i<ns.length) (hm:ms[i]?=some m) (hup:Up ns) (hf:ns.length - i≤f+1) (hpos:0<r.hold.length) (hlim:r.hold.length+f≤100000) (hk:(ns.getD i default).kind=4) :
  Calls Tryz.prog 63 #[.pointer (some ⟨vb,0,none⟩),.pointer (some ⟨m.blk,0,none⟩)] w fun e w'=>e=.returned (.tuple #[])∧NmPost n0 w ρ vb hv ms (nameF (f+1) (r,ns) i) w':=by
 have hge:=h.rv.ge
 have hlv:=lt_of_at h.rv.cells
 have hl:=h.lt i m hm
 have bA:Below w.heap.size w ((w.alloc (.cells #[.pointer (some ⟨vb,0,none⟩)] 122)).alloc (.cells #[.pointer (some ⟨m.blk,0,none⟩)] 54)):=((Below.refl _ _).alloc (Nat.le_refl _) _).alloc (by simp) _
 have hA:=h.below bA
 have a1:=at_alloc (at_new w (.cells #[.pointer (some ⟨vb,0,none⟩)] 122)) (.cells #[.pointer (some ⟨m.blk,0,none⟩)] 54)
 have a2:=at_new (w.alloc (.cells #[.pointer (some ⟨vb,0,none⟩)] 122)) (.cells #[.pointer (some ⟨m.blk,0,none⟩)] 54)
 simp only [World.size_alloc] at a2
 have hhv:∀ g,hv.ownBlock=some g->g<w.heap.size:=fun g hg=>(h.rv.own.lt g hg).2
 have hNA:=hA.node hi hm
 have e1:nameF (f+1) (r,ns) i=(ns.getD i default).kids.foldl (nameF f) ((exprOf (headOf r (ns.getD i default)).1 (headOf r (ns.getD i default)).2).1,ns.set i (exprOf (headOf r (ns.getD i default)).1 (headOf r (ns.getD i default)).2).2):=by
  have hk':¬ ((ns.getD i default).kind=15∨(ns.getD i default).kind=16):=by rw [hk];decide
  simp only [nameF];rw [if_neg hk']
 have hh:=headOf_same r (ns.getD i default)
 have eh:headOf r (ns.getD i default)=chanOf r (ns.getD i default):=by unfold headOf;rw [if_neg (by rw [hk];decide),if_pos hk]
 rw [e1]
 rw [eh] at hh ⊢
 generalize hn:ns.getD i default=n at *
 have k0:((w.alloc (.cells #[.pointer (some ⟨vb,0,none⟩)] 122)).alloc (.cells #[.pointer (some ⟨m.blk,0,none⟩)] 54)).cell? ⟨m.blk,0,none⟩=some (.int .i64 4):=by rw [<-hk];exact cell_at hNA.cells 0
 have k1:((w.alloc (.cells #[.pointer (some ⟨vb,0,none⟩)] 122)).alloc (.cells #[.pointer (some ⟨m.blk,0,none⟩)] 54)).cell? ⟨m.blk,1,none⟩=some (.int .i64 n.line):=cell_at hNA.cells 1
 have b1:Boxes ((w.alloc (.cells #[.pointer (some ⟨vb,0,none⟩)] 122)).alloc (.cells #[.pointer (some ⟨m.blk,0,none⟩)] 54)) vb m w.heap.size:=⟨cell_at a1 0,cell_at a2 0⟩
 have sz:w.heap.size+2=((w.alloc (.cells #[.pointer (some ⟨vb,0,none⟩)] 122)).alloc (.cells #[.pointer (some ⟨m.blk,0,none⟩)] 54)).heap.size:=by simp
 have H:=hide h;have Ba:=hide bA;have HA:=hide hA;have Hn:=hide hn;have B1:=hide b1;have Hup:=hide hup;have Ih:=hide ih;have Hh:=hide hh
 clear h bA hA hNA hn hk a1 a2 e1 eh b1 hup ih hh
 go_enter Tryz.func63,Tryz.ntmps63
 go_wp2_with fail
 generalize ((w.alloc (.cells #[.pointer (some ⟨vb,0,none⟩)] 122)).alloc (.cells #[.pointer (some ⟨m.blk,0,none⟩)] 54))=wA at Ba HA k0 k1 B1 sz ⊢
 have q1:=B1.out.c1
 have q2:=B1.out.c2
 go_region_held3 (fun w'=>w'.cell? ⟨w.heap.size,0,none⟩=some (.pointer (some ⟨vb,0,none⟩))∧w'.cell? ⟨w.heap.size+1,0,none⟩=some (.pointer (some ⟨m.blk,0,none⟩))∧w'.cell? ⟨m.blk,1,none⟩=some (.int .i64 n.line)) (go_keep)
  (first|(go_at_call 118;refine (nm_chan HA.out.drew hi hm hpos (by omega) n.line (by rw [Hn.out])).mono ?_;rw [Hn.out];rintro e w1 ⟨rfl,n1,f1⟩;have bx:=Boxes.fr B1.out (Fr.trans (Fr.below (Below.refl _ _).drew) (.inl rfl) f1) (by omega) (by omega) (fun g hg=>.inl (hhv g hg));have p1:=bx.c1;have p2:=bx.c2;have hx:=(n1.node (by simpa using hi) hm).cells;rw [set_getD _ _ _ _ hi] at hx;have p3:w1.cell? ⟨m.blk,1,none⟩=some (.int .i64 n.line):=cell_at hx 1;have p6:w1.cell? ⟨m.blk,6,none⟩=some (.pointer m.ve):=cell_at hx 6;have N1:=hide n1;have F1:=hide f1;have Bx1:=hide bx;clear n1 f1 bx hx))
 have E1:Hid ((ns.set i (chanOf r n).2).getD i default=(chanOf r n).2):=set_getD _ _ _ _ hi
 have hpos1:0<(chanOf r n).1.hold.length:=by rw [show (chanOf r n).1.hold=r.hold from (resolveF_hold _ _ _ _ _)];exact hpos
 have hlim1:(chanOf r n).1.hold.length+f≤100000:=by rw [show (chanOf r n).1.hold=r.hold from (resolveF_hold _ _ _ _ _)];exact hlim
 go_wp2_with fail
 refine (nm_each N1.out (by simpa using hi) hm hpos1 (by omega) w.heap.size (w.heap.size+1) (by omega) (by omega) Bx1.out.c1 Bx1.out.c2 (by omega) (by omega)).mono ?_
 rw [E1.out]
 rintro e wE ⟨rfl,nE,fE⟩
 rw [List.set_set] at nE
 have bE:=Boxes.fr Bx1.out fE (by omega) (by omega) (fun g hg=>.inl (hhv g hg))
 have p1E:=bE.c1
 have p2E:=bE.c2
 have NE:=hide nE;have FE:=hide fE;have BE:=hide bE
 clear nE fE bE
 have EE:Hid ((ns.set i (exprOf (chanOf r n).1 (chanOf r n).2).2).getD i default=(exprOf (chanOf r n).1 (chanOf r n).2).2):=set_getD _ _ _ _ hi
 have holdE:(exprOf (chanOf r n).1 (chanOf r n).2).1.hold=r.hold:=(eachF_hold' _ _ _).trans (resolveF_hold _ _ _ _ _)
 have shE:SameShape ns (ns.set i (exprOf (chanOf r n).1 (chanOf r n).2).2):=SameShape.set ns i _ (by rw [Hn.out];exact Hh.out.1) (by rw [Hn.out];exact Hh.out.2.1)
 have upE:=Hup.out.shape shE
 have UpE:=hide upE
 clear upE shE
 go_wp2_with fail
 refine (below_any f Ih.out n0 _ ρ vb hv (exprOf (chanOf r n).1 (chanOf r n).2).1 (ns.set i (exprOf (chanOf r n).1 (chanOf r n).2).2) ms i m NE.out (by simpa using hi) hm UpE.out (by simpa using hf) (by rw [holdE];exact hpos) (by rw [holdE];exact hlim)).mono ?_
 rw [EE.out]
 rintro e wB ⟨rfl,pB⟩
 have PB:=hide pB
 clear pB
 go_wp2
 go_end0
 refine⟨rfl,NmPost.trans (Rel.refl _ _) ?_ (show NmPost n0 wE ρ vb hv ms (n.kids.foldl (nameF f) _) wB from ?_)⟩
 ·exact (Fr.trans (Fr.trans (Fr.trans (Fr.below Ba.out) (.inl rfl) (Fr.below (Below.refl _ _).drew)) (.inl rfl) F1.out) (.inl rfl) FE.out)
 ·have:=PB.out
  rw [show (exprOf (chanOf r n).1 (chanOf r n).2).2.kids=n.kids from Hh.out.1] at this
  exact this
set_option maxHeartbeats 4000000 in
theorem nproc_is5 (f:Nat) (ih:NameSaid f) (n0:Nat) (w:World) (ρ:Nat->Role) (vb:Nat) (hv:Value) (r:RV) (ns:List PNode) (ms:List NM) (i:Nat) (m:NM) (h:NmAt n0 w ρ vb hv r ns ms) (hi:i<ns.length) (hm:ms[i]?=some m) (hup:Up ns) (hf:ns.length - i≤f+1) (hpos:0<r.hold.length) (hlim:r.hold.length+f≤100000) (hk:(ns.getD i default).kind=5) :
  Calls Tryz.prog 63 #[.pointer (some ⟨vb,0,none⟩),.pointer (some ⟨m.blk,0,none⟩)] w fun e w'=>e=.returned (.tuple #[])∧NmPost n0 w ρ vb hv ms (nameF (f+1) (r,ns) i) w':=by
 have hge:=h.rv.ge
 have hlv:=lt_of_at h.rv.cells
 have hl:=h.lt i m hm
 have bA:Below w.heap.size w ((w.alloc (.cells #[.pointer (some ⟨vb,0,none⟩)] 122)).alloc (.cells #[.pointer (some ⟨m.blk,0,none⟩)] 54)):=((Below.refl _ _).alloc (Nat.le_refl _) _).alloc (by simp) _
 have hA:=h.below bA
 have a1:=at_alloc (at_new w (.cells #[.pointer (some ⟨vb,0,none⟩)] 122)) (.cells #[.pointer (some ⟨m.blk,0,none⟩)] 54)
 have a2:=at_new (w.alloc (.cells #[.pointer (some ⟨vb,0,none⟩)] 122)) (.cells #[.pointer (some ⟨m.blk,0,none⟩)] 54)
 simp only [World.size_alloc] at a2
 have hhv:∀ g,hv.ownBlock=some g->g<w.heap.size:=fun g hg=>(h.rv.own.lt g hg).2
 have hNA:=hA.node hi hm
 have e1:nameF (f+1) (r,ns) i=(ns.getD i default).kids.foldl (nameF f) ((exprOf (headOf r (ns.getD i default)).1 (headOf r (ns.getD i default)).2).1,ns.set i (exprOf (headOf r (ns.getD i default)).1 (headOf r (ns.getD i default)).2).2):=by
  have hk':¬ ((ns.getD i default).kind=15∨(ns.getD i default).kind=16):=by rw [hk];decide
  simp only [nameF];rw [if_neg hk']
 have hh:=headOf_same r (ns.getD i default)
 have eh:headOf r (ns.getD i default)=nameOf (chanOf r (ns.getD i default)).1 (chanOf r (ns.getD i default)).2:=by unfold headOf;rw [if_neg (by rw [hk];decide),if_neg (by rw [hk];decide),if_pos (.inl hk)]
 rw [e1]
 rw [eh] at hh ⊢
 generalize hn:ns.getD i default=n at *
 have k0:((w.alloc (.cells #[.pointer (some ⟨vb,0,none⟩)] 122)).alloc (.cells #[.pointer (some ⟨m.blk,0,none⟩)] 54)).cell? ⟨m.blk,0,none⟩=some (.int .i64 5):=by rw [<-hk];exact cell_at hNA.cells 0
 have k1:((w.alloc (.cells #[.pointer (some ⟨vb,0,none⟩)] 122)).alloc (.cells #[.pointer (some ⟨m.blk,0,none⟩)] 54)).cell? ⟨m.blk,1,none⟩=some (.int .i64 n.line):=cell_at hNA.cells 1
 have b1:Boxes ((w.alloc (.cells #[.pointer (some ⟨vb,0,none⟩)] 122)).alloc (.cells #[.pointer (some ⟨m.blk,0,none⟩)] 54)) vb m w.heap.size:=⟨cell_at a1 0,cell_at a2 0⟩
 have sz:w.heap.size+2=((w.alloc (.cells #[.pointer (some ⟨vb,0,none⟩)] 122)).alloc (.cells #[.pointer (some ⟨m.blk,0,none⟩)] 54)).heap.size:=by simp
 have H:=hide h;have Ba:=hide bA;have HA:=hide hA;have Hn:=hide hn;have B1:=hide b1;have Hup:=hide hup;have Ih:=hide ih;have Hh:=hide hh
 clear h bA hA hNA hn hk a1 a2 e1 eh b1 hup ih hh
 go_enter Tryz.func63,Tryz.ntmps63
 go_wp2_with fail
 generalize ((w.alloc (.cells #[.pointer (some ⟨vb,0,none⟩)] 122)).alloc (.cells #[.pointer (some ⟨m.blk,0,none⟩)] 54))=wA at Ba HA k0 k1 B1 sz ⊢
 have q1:=B1.out.c1
 have q2:=B1.out.c2
 go_region_held3 (fun w'=>w'.cell? ⟨w.heap.size,0,none⟩=some (.pointer (some ⟨vb,0,none⟩))∧w'.cell? ⟨w.heap.size+1,0,none⟩=some (.pointer (some ⟨m.blk,0,none⟩))∧w'.cell? ⟨m.blk,1,none⟩=some (.int .i64 n.line)) (go_keep)
  (first|(go_at_call 118;refine (nm_chan HA.out.drew hi hm hpos (by omega) n.line (by rw [Hn.out])).mono ?_;rw [Hn.out];rintro e w1 ⟨rfl,n1,f1⟩;have bx:=Boxes.fr B1.out (Fr.trans (Fr.below (Below.refl _ _).drew) (.inl rfl) f1) (by omega) (by omega) (fun g hg=>.inl (hhv g hg));have p1:=bx.c1;have p2:=bx.c2;have hx:=(n1.node (by simpa using hi) hm).cells;rw [set_getD _ _ _ _ hi] at hx;have p3:w1.cell? ⟨m.blk,1,none⟩=some (.int .i64 n.line):=cell_at hx 1;have p6:w1.cell? ⟨m.blk,6,none⟩=some (.pointer m.ve):=cell_at hx 6;have N1:=hide n1;have F1:=hide f1;have Bx1:=hide bx;clear n1 f1 bx hx))
 have E1:Hid ((ns.set i (chanOf r n).2).getD i default=(chanOf r n).2):=set_getD _ _ _ _ hi
 have hpos1:0<(chanOf r n).1.hold.length:=by rw [show (chanOf r n).1.hold=r.hold from (resolveF_hold _ _ _ _ _)];exact hpos
 have hlim1:(chanOf r n).1.hold.length+f≤100000:=by rw [show (chanOf r n).1.hold=r.hold from (resolveF_hold _ _ _ _ _)];exact hlim
 go_wp2_with fail
 go_region_held3 (fun w'=>w'.cell? ⟨w.heap.size,0,none⟩=some (.pointer (some ⟨vb,0,none⟩))∧w'.cell? ⟨w.heap.size+1,0,none⟩=some (.pointer (some ⟨m.blk,0,none⟩))∧w'.cell? ⟨m.blk,1,none⟩=some (.int .i64 n.line)) (go_keep)
  (first|(go_at_call 118;refine (nm_name N1.out.drew (by simpa using hi) hm hpos1 (by omega) n.line (by rw [E1.out];rfl)).mono ?_;rw [E1.out];rintro e w2 ⟨rfl,n2,f2⟩;rw [List.set_set] at n2;have bx:=Boxes.fr Bx1.out (Fr.trans (Fr.below (Below.refl _ _).drew) (.inl rfl) f2) (by omega) (by omega) (fun g hg=>.inl (hhv g hg));have p1:=bx.c1;have p2:=bx.c2;have hx:=(n2.node (by simpa using hi) hm).cells;rw [set_getD _ _ _ _ hi] at hx;have p3:w2.cell? ⟨m.blk,1,none⟩=some (.int .i64 n.line):=cell_at hx 1;have p6:w2.cell? ⟨m.blk,6,none⟩=some (.pointer m.ve):=cell_at hx 6;have N2:=hide n2;have F2:=hide f2;have Bx2:=hide bx;clear n2 f2 bx hx))
 have E2:Hid ((ns.set i (nameOf (chanOf r n).1 (chanOf r n).2).2).getD i default=(nameOf (chanOf r n).1 (chanOf r n).2).2):=set_getD _ _ _ _ hi
 have hpos2:0<(nameOf (chanOf r n).1 (chanOf r n).2).1.hold.length:=by rw [show (nameOf (chanOf r n).1 (chanOf r n).2).1.hold=r.hold from ((resolveF_hold _ _ _ _ _).trans (resolveF_hold _ _ _ _ _))];exact hpos
 have hlim2:(nameOf (chanOf r n).1 (chanOf r n).2).1.hold.length+f≤100000:=by rw [show (nameOf (chanOf r n).1 (chanOf r n).2).1.hold=r.hold from ((resolveF_hold _ _ _ _ _).trans (resolveF_hold _ _ _ _ _))];exact hlim
 go_wp2_with fail
 refine (nm_each N2.out (by simpa using hi) hm hpos2 (by omega) w.heap.size (w.heap.size+1) (by omega) (by omega) Bx2.out.c1 Bx2.out.c2 (by omega) (by omega)).mono ?_
 rw [E2.out]
 rintro e wE ⟨rfl,nE,fE⟩
 rw [List.set_set] at nE
 have bE:=Boxes.fr Bx2.out fE (by omega) (by omega) (fun g hg=>.inl (hhv g hg))
 have p1E:=bE.c1
 have p2E:=bE.c2
 have NE:=hide nE;have FE:=hide fE;have BE:=hide bE
 clear nE fE bE
 have EE:Hid ((ns.set i (exprOf (nameOf (chanOf r n).1 (chanOf r n).2).1 (nameOf (chanOf r n).1 (chanOf r n).2).2).2).getD i default=(exprOf (nameOf (chanOf r n).1 (chanOf r n).2).1 (nameOf (chanOf r n).1 (chanOf r n).2).2).2):=set_getD _ _ _ _ hi
 have holdE:(exprOf (nameOf (chanOf r n).1 (chanOf r n).2).1 (nameOf (chanOf r n).1 (chanOf r n).2).2).1.hold=r.hold:=(eachF_hold' _ _ _).trans ((resolveF_hold _ _ _ _ _).trans (resolveF_hold _ _ _ _ _))
 have shE:SameShape ns (ns.set i (exprOf (nameOf (chanOf r n).1 (chanOf r n).2).1 (nameOf (chanOf r n).1 (chanOf r n).2).2).2):=SameShape.set ns i _ (by rw [Hn.out];exact Hh.out.1) (by rw [Hn.out];exact Hh.out.2.1)
 have upE:=Hup.out.shape shE
 have UpE:=hide upE
 clear upE shE
 go_wp2_with fail
 refine (below_any f Ih.out n0 _ ρ vb hv (exprOf (nameOf (chanOf r n).1 (chanOf r n).2).1 (nameOf (chanOf r n).1 (chanOf r n).2).2).1 (ns.set i (exprOf (nameOf (chanOf r n).1 (chanOf r n).2).1 (nameOf (chanOf r n).1 (chanOf r n).2).2).2) ms i m NE.out (by simpa using hi) hm UpE.out (by simpa using hf) (by rw [holdE];exact hpos) (by rw [holdE];exact hlim)).mono ?_
 rw [EE.out]
 rintro e wB ⟨rfl,pB⟩
 have PB:=hide pB
 clear pB
 go_wp2
 go_end0
 refine⟨rfl,NmPost.trans (Rel.refl _ _) ?_ (show NmPost n0 wE ρ vb hv ms (n.kids.foldl (nameF f) _) wB from ?_)⟩
 ·exact (Fr.trans (Fr.trans (Fr.trans (Fr.trans (Fr.trans (Fr.below Ba.out) (.inl rfl) (Fr.below (Below.refl _ _).drew)) (.inl rfl) F1.out) (.inl rfl) (Fr.below (Below.refl _ _).drew)) (.inl rfl) F2.out) (.inl rfl) FE.out)
 ·have:=PB.out
  rw [show (exprOf (nameOf (chanOf r n).1 (chanOf r n).2).1 (nameOf (chanOf r n).1 (chanOf r n).2).2).2.kids=n.kids from Hh.out.1] at this
  exact this
set_option maxHeartbeats 4000000 in
theorem nproc_is14 (f:Nat) (ih:NameSaid f) (n0:Nat) (w:World) (ρ:Nat->Role) (vb:Nat) (hv:Value) (r:RV) (ns:List PNode) (ms:List NM) (i:Nat) (m:NM) (h:NmAt n0 w ρ vb hv r ns ms) (hi:i<ns.length) (hm:ms[i]?=some m) (hup:Up ns) (hf:ns.length - i≤f+1) (hpos:0<r.hold.length) (hlim:r.hold.length+f≤100000) (hk:(ns.getD i default).kind=14) :
  Calls Tryz.prog 63 #[.pointer (some ⟨vb,0,none⟩),.pointer (some ⟨m.blk,0,none⟩)] w fun e w'=>e=.returned (.tuple #[])∧NmPost n0 w ρ vb hv ms (nameF (f+1) (r,ns) i) w':=by
 have hge:=h.rv.ge
 have hlv:=lt_of_at h.rv.cells
 have hl:=h.lt i m hm
 have bA:Below w.heap.size w ((w.alloc (.cells #[.pointer (some ⟨vb,0,none⟩)] 122)).alloc (.cells #[.pointer (some ⟨m.blk,0,none⟩)] 54)):=((Below.refl _ _).alloc (Nat.le_refl _) _).alloc (by simp) _
 have hA:=h.below bA
 have a1:=at_alloc (at_new w (.cells #[.pointer (some ⟨vb,0,none⟩)] 122)) (.cells #[.pointer (some ⟨m.blk,0,none⟩)] 54)
 have a2:=at_new (w.alloc (.cells #[.pointer (some ⟨vb,0,none⟩)] 122)) (.cells #[.pointer (some ⟨m.blk,0,none⟩)] 54)
 simp only [World.size_alloc] at a2
 have hhv:∀ g,hv.ownBlock=some g->g<w.heap.size:=fun g hg=>(h.rv.own.lt g hg).2
 have hNA:=hA.node hi hm
 have e1:nameF (f+1) (r,ns) i=(ns.getD i default).kids.foldl (nameF f) ((exprOf (headOf r (ns.getD i default)).1 (headOf r (ns.getD i default)).2).1,ns.set i (exprOf (headOf r (ns.getD i default)).1 (headOf r (ns.getD i default)).2).2):=by
  have hk':¬ ((ns.getD i default).kind=15∨(ns.getD i default).kind=16):=by rw [hk];decide
  simp only [nameF];rw [if_neg hk']
 have hh:=headOf_same r (ns.getD i default)
 have eh:headOf r (ns.getD i default)=nameOf (chanOf r (ns.getD i default)).1 (chanOf r (ns.getD i default)).2:=by unfold headOf;rw [if_neg (by rw [hk];decide),if_neg (by rw [hk];decide),if_pos (.inr hk)]
 rw [e1]
 rw [eh] at hh ⊢
 generalize hn:ns.getD i default=n at *
 have k0:((w.alloc (.cells #[.pointer (some ⟨vb,0,none⟩)] 122)).alloc (.cells #[.pointer (some ⟨m.blk,0,none⟩)] 54)).cell? ⟨m.blk,0,none⟩=some (.int .i64 14):=by rw [<-hk];exact cell_at hNA.cells 0
 have k1:((w.alloc (.cells #[.pointer (some ⟨vb,0,none⟩)] 122)).alloc (.cells #[.pointer (some ⟨m.blk,0,none⟩)] 54)).cell? ⟨m.blk,1,none⟩=some (.int .i64 n.line):=cell_at hNA.cells 1
 have b1:Boxes ((w.alloc (.cells #[.pointer (some ⟨vb,0,none⟩)] 122)).alloc (.cells #[.pointer (some ⟨m.blk,0,none⟩)] 54)) vb m w.heap.size:=⟨cell_at a1 0,cell_at a2 0⟩
 have sz:w.heap.size+2=((w.alloc (.cells #[.pointer (some ⟨vb,0,none⟩)] 122)).alloc (.cells #[.pointer (some ⟨m.blk,0,none⟩)] 54)).heap.size:=by simp
 have H:=hide h;have Ba:=hide bA;have HA:=hide hA;have Hn:=hide hn;have B1:=hide b1;have Hup:=hide hup;have Ih:=hide ih;have Hh:=hide hh
 clear h bA hA hNA hn hk a1 a2 e1 eh b1 hup ih hh
 go_enter Tryz.func63,Tryz.ntmps63
 go_wp2_with fail
 generalize ((w.alloc (.cells #[.pointer (some ⟨vb,0,none⟩)] 122)).alloc (.cells #[.pointer (some ⟨m.blk,0,none⟩)] 54))=wA at Ba HA k0 k1 B1 sz ⊢
 have q1:=B1.out.c1
 have q2:=B1.out.c2
 go_region_held3 (fun w'=>w'.cell? ⟨w.heap.size,0,none⟩=some (.pointer (some ⟨vb,0,none⟩))∧w'.cell? ⟨w.heap.size+1,0,none⟩=some (.pointer (some ⟨m.blk,0,none⟩))∧w'.cell? ⟨m.blk,1,none⟩=some (.int .i64 n.line)) (go_keep)
  (first|(go_at_call 118;refine (nm_chan HA.out.drew hi hm hpos (by omega) n.line (by rw [Hn.out])).mono ?_;rw [Hn.out];rintro e w1 ⟨rfl,n1,f1⟩;have bx:=Boxes.fr B1.out (Fr.trans (Fr.below (Below.refl _ _).drew) (.inl rfl) f1) (by omega) (by omega) (fun g hg=>.inl (hhv g hg));have p1:=bx.c1;have p2:=bx.c2;have hx:=(n1.node (by simpa using hi) hm).cells;rw [set_getD _ _ _ _ hi] at hx;have p3:w1.cell? ⟨m.blk,1,none⟩=some (.int .i64 n.line):=cell_at hx 1;have p6:w1.cell? ⟨m.blk,6,none⟩=some (.pointer m.ve):=cell_at hx 6;have N1:=hide n1;have F1:=hide f1;have Bx1:=hide bx;clear n1 f1 bx hx))
 have E1:Hid ((ns.set i (chanOf r n).2).getD i default=(chanOf r n).2):=set_getD _ _ _ _ hi
 have hpos1:0<(chanOf r n).1.hold.length:=by rw [show (chanOf r n).1.hold=r.hold from (resolveF_hold _ _ _ _ _)];exact hpos
 have hlim1:(chanOf r n).1.hold.length+f≤100000:=by rw [show (chanOf r n).1.hold=r.hold from (resolveF_hold _ _ _ _ _)];exact hlim
 go_wp2_with fail
 go_region_held3 (fun w'=>w'.cell? ⟨w.heap.size,0,none⟩=some (.pointer (some ⟨vb,0,none⟩))∧w'.cell? ⟨w.heap.size+1,0,none⟩=some (.pointer (some ⟨m.blk,0,none⟩))∧w'.cell? ⟨m.blk,1,none⟩=some (.int .i64 n.line)) (go_keep)
  (first|(go_at_call 118;refine (nm_name N1.out.drew (by simpa using hi) hm hpos1 (by omega) n.line (by rw [E1.out];rfl)).mono ?_;rw [E1.out];rintro e w2 ⟨rfl,n2,f2⟩;rw [List.set_set] at n2;have bx:=Boxes.fr Bx1.out (Fr.trans (Fr.below (Below.refl _ _).drew) (.inl rfl) f2) (by omega) (by omega) (fun g hg=>.inl (hhv g hg));have p1:=bx.c1;have p2:=bx.c2;have hx:=(n2.node (by simpa using hi) hm).cells;rw [set_getD _ _ _ _ hi] at hx;have p3:w2.cell? ⟨m.blk,1,none⟩=some (.int .i64 n.line):=cell_at hx 1;have p6:w2.cell? ⟨m.blk,6,none⟩=some (.pointer m.ve):=cell_at hx 6;have N2:=hide n2;have F2:=hide f2;have Bx2:=hide bx;clear n2 f2 bx hx))
 have E2:Hid ((ns.set i (nameOf (chanOf r n).1 (chanOf r n).2).2).getD i default=(nameOf (chanOf r n).1 (chanOf r n).2).2):=set_getD _ _ _ _ hi
 have hpos2:0<(nameOf (chanOf r n).1 (chanOf r n).2).1.hold.length:=by rw [show (nameOf (chanOf r n).1 (chanOf r n).2).1.hold=r.hold from ((resolveF_hold _ _ _ _ _).trans (resolveF_hold _ _ _ _ _))];exact hpos
 have hlim2:(nameOf (chanOf r n).1 (chanOf r n).2).1.hold.length+f≤100000:=by rw [show (nameOf (chanOf r n).1 (chanOf r n).2).1.hold=r.hold from ((resolveF_hold _ _ _ _ _).trans (resolveF_hold _ _ _ _ _))];exact hlim
 go_wp2_with fail
 refine (nm_each N2.out (by simpa using hi) hm hpos2 (by omega) w.heap.size (w.heap.size+1) (by omega) (by omega) Bx2.out.c1 Bx2.out.c2 (by omega) (by omega)).mono ?_
 rw [E2.out]
 rintro e wE ⟨rfl,nE,fE⟩
 rw [List.set_set] at nE
 have bE:=Boxes.fr Bx2.out fE (by omega) (by omega) (fun g hg=>.inl (hhv g hg))
 have p1E:=bE.c1
 have p2E:=bE.c2
 have NE:=hide nE;have FE:=hide fE;have BE:=hide bE
 clear nE fE bE
 have EE:Hid ((ns.set i (exprOf (nameOf (chanOf r n).1 (chanOf r n).2).1 (nameOf (chanOf r n).1 (chanOf r n).2).2).2).getD i default=(exprOf (nameOf (chanOf r n).1 (chanOf r n).2).1 (nameOf (chanOf r n).1 (chanOf r n).2).2).2):=set_getD _ _ _ _ hi
 have holdE:(exprOf (nameOf (chanOf r n).1 (chanOf r n).2).1 (nameOf (chanOf r n).1 (chanOf r n).2).2).1.hold=r.hold:=(eachF_hold' _ _ _).trans ((resolveF_hold _ _ _ _ _).trans (resolveF_hold _ _ _ _ _))
 have shE:SameShape ns (ns.set i (exprOf (nameOf (chanOf r n).1 (chanOf r n).2).1 (nameOf (chanOf r n).1 (chanOf r n).2).2).2):=SameShape.set ns i _ (by rw [Hn.out];exact Hh.out.1) (by rw [Hn.out];exact Hh.out.2.1)
 have upE:=Hup.out.shape shE
 have UpE:=hide upE
 clear upE shE
 go_wp2_with fail
 refine (below_any f Ih.out n0 _ ρ vb hv (exprOf (nameOf (chanOf r n).1 (chanOf r n).2).1 (nameOf (chanOf r n).1 (chanOf r n).2).2).1 (ns.set i (exprOf (nameOf (chanOf r n).1 (chanOf r n).2).1 (nameOf (chanOf r n).1 (chanOf r n).2).2).2) ms i m NE.out (by simpa using hi) hm UpE.out (by simpa using hf) (by rw [holdE];exact hpos) (by rw [holdE];exact hlim)).mono ?_
 rw [EE.out]
 rintro e wB ⟨rfl,pB⟩
 have PB:=hide pB
 clear pB
 go_wp2
 go_end0
 refine⟨rfl,NmPost.trans (Rel.refl _ _) ?_ (show NmPost n0 wE ρ vb hv ms (n.kids.foldl (nameF f) _) wB from ?_)⟩
 ·exact (Fr.trans (Fr.trans (Fr.trans (Fr.trans (Fr.trans (Fr.below Ba.out) (.inl rfl) (Fr.below (Below.refl _ _).drew)) (.inl rfl) F1.out) (.inl rfl) (Fr.below (Below.refl _ _).drew)) (.inl rfl) F2.out) (.inl rfl) FE.out)
 ·have:=PB.out
  rw [show (exprOf (nameOf (chanOf r n).1 (chanOf r n).2).1 (nameOf (chanOf r n).1 (chanOf r n).2).2).2.kids=n.kids from Hh.out.1] at this
  exact this
set_option maxHeartbeats 4000000 in
theorem nproc_else (f:Nat) (ih:NameSaid f) (n0:Nat) (w:World) (ρ:Nat->Role) (vb:Nat) (hv:Value) (r:RV) (ns:List PNode) (ms:List NM) (i:Nat) (m:NM) (h:NmAt n0 w ρ vb hv r ns ms) (hi:i<ns.length) (hm:ms[i]?=some m) (hup:Up ns) (hf:ns.length - i≤f+1) (hpos:0<r.hold.length) (hlim:r.hold.length+f≤100000) (hk1:(ns.getD i default).kind≠15) (hk2:(ns.getD i default).kind≠16) (hk3:(ns.getD i default).kind≠3) (hk4:(ns.getD i default).kind≠4) (hk5:(ns.getD i default).kind≠5) (hk6:(ns.getD i default).kind≠14) :
  Calls Tryz.prog 63 #[.pointer (some ⟨vb,0,none⟩),.pointer (some ⟨m.blk,0,none⟩)] w fun e w'=>e=.returned (.tuple #[])∧NmPost n0 w ρ vb hv ms (nameF (f+1) (r,ns) i) w':=by
 have hge:=h.rv.ge
 have hlv:=lt_of_at h.rv.cells
 have hl:=h.lt i m hm
 have bA:Below w.heap.size w ((w.alloc (.cells #[.pointer (some ⟨vb,0,none⟩)] 122)).alloc (.cells #[.pointer (some ⟨m.blk,0,none⟩)] 54)):=((Below.refl _ _).alloc (Nat.le_refl _) _).alloc (by simp) _
 have hA:=h.below bA
 have a1:=at_alloc (at_new w (.cells #[.pointer (some ⟨vb,0,none⟩)] 122)) (.cells #[.pointer (some ⟨m.blk,0,none⟩)] 54)
 have a2:=at_new (w.alloc (.cells #[.pointer (some ⟨vb,0,none⟩)] 122)) (.cells #[.pointer (some ⟨m.blk,0,none⟩)] 54)
 simp only [World.size_alloc] at a2
 have hhv:∀ g,hv.ownBlock=some g->g<w.heap.size:=fun g hg=>(h.rv.own.lt g hg).2
 have hNA:=hA.node hi hm
 have e1:nameF (f+1) (r,ns) i=(ns.getD i default).kids.foldl (nameF f) ((exprOf (headOf r (ns.getD i default)).1 (headOf r (ns.getD i default)).2).1,ns.set i (exprOf (headOf r (ns.getD i default)).1 (headOf r (ns.getD i default)).2).2):=by
  have hk':¬ ((ns.getD i default).kind=15∨(ns.getD i default).kind=16):=by simp only [not_or];exact⟨hk1,hk2⟩
  simp only [nameF];rw [if_neg hk']
 have hh:=headOf_same r (ns.getD i default)
 have eh:headOf r (ns.getD i default)=(r,(ns.getD i default)):=by unfold headOf;rw [if_neg hk3,if_neg hk4,if_neg (by simp only [not_or];exact⟨hk5,hk6⟩)]
 rw [e1]
 rw [eh] at hh ⊢
 generalize hn:ns.getD i default=n at *
 have k0:((w.alloc (.cells #[.pointer (some ⟨vb,0,none⟩)] 122)).alloc (.cells #[.pointer (some ⟨m.blk,0,none⟩)] 54)).cell? ⟨m.blk,0,none⟩=some (.int .i64 n.kind):=cell_at hNA.cells 0
 have p6:((w.alloc (.cells #[.pointer (some ⟨vb,0,none⟩)] 122)).alloc (.cells #[.pointer (some ⟨m.blk,0,none⟩)] 54)).cell? ⟨m.blk,6,none⟩=some (.pointer m.ve):=cell_at hNA.cells 6
 have k1:((w.alloc (.cells #[.pointer (some ⟨vb,0,none⟩)] 122)).alloc (.cells #[.pointer (some ⟨m.blk,0,none⟩)] 54)).cell? ⟨m.blk,1,none⟩=some (.int .i64 n.line):=cell_at hNA.cells 1
 have b1:Boxes ((w.alloc (.cells #[.pointer (some ⟨vb,0,none⟩)] 122)).alloc (.cells #[.pointer (some ⟨m.blk,0,none⟩)] 54)) vb m w.heap.size:=⟨cell_at a1 0,cell_at a2 0⟩
 have sz:w.heap.size+2=((w.alloc (.cells #[.pointer (some ⟨vb,0,none⟩)] 122)).alloc (.cells #[.pointer (some ⟨m.blk,0,none⟩)] 54)).heap.size:=by simp
 have g1:=beq_eq_false_iff_ne.2 hk1
 have g2:=beq_eq_false_iff_ne.2 hk2
 have g3:=beq_eq_false_iff_ne.2 hk3
 have g4:=beq_eq_false_iff_ne.2 hk4
 have g5:=beq_eq_false_iff_ne.2 hk5
 have g6:=beq_eq_false_iff_ne.2 hk6
 have H:=hide h;have Ba:=hide bA;have HA:=hide hA;have Hn:=hide hn;have B1:=hide b1;have Hup:=hide hup;have Ih:=hide ih;have Hh:=hide hh
 clear h bA hA hNA hn hk1 hk2 hk3 hk4 hk5 hk6 a1 a2 e1 eh b1 hup ih hh
 go_enter Tryz.func63,Tryz.ntmps63
 go_wp2_with fail
 generalize ((w.alloc (.cells #[.pointer (some ⟨vb,0,none⟩)] 122)).alloc (.cells #[.pointer (some ⟨m.blk,0,none⟩)] 54))=wA at Ba HA k0 k1 p6 B1 sz ⊢
 have q1:=B1.out.c1
 have q2:=B1.out.c2
 refine (nm_each HA.out hi hm hpos (by omega) w.heap.size (w.heap.size+1) (by omega) (by omega) B1.out.c1 B1.out.c2 (by omega) (by omega)).mono ?_
 rw [Hn.out]
 rintro e wE ⟨rfl,nE,fE⟩
 have bE:=Boxes.fr B1.out fE (by omega) (by omega) (fun g hg=>.inl (hhv g hg))
 have p1E:=bE.c1
 have p2E:=bE.c2
 have NE:=hide nE;have FE:=hide fE;have BE:=hide bE
 clear nE fE bE
 have EE:Hid ((ns.set i (exprOf r n).2).getD i default=(exprOf r n).2):=set_getD _ _ _ _ hi
 have holdE:(exprOf r n).1.hold=r.hold:=(eachF_hold' _ _ _).trans rfl
 have shE:SameShape ns (ns.set i (exprOf r n).2):=SameShape.set ns i _ (by rw [Hn.out];rfl) (by rw [Hn.out];rfl)
 have upE:=Hup.out.shape shE
 have UpE:=hide upE
 clear upE shE
 go_wp2_with fail
 refine (below_any f Ih.out n0 _ ρ vb hv (exprOf r n).1 (ns.set i (exprOf r n).2) ms i m NE.out (by simpa using hi) hm UpE.out (by simpa using hf) (by rw [holdE];exact hpos) (by rw [holdE];exact hlim)).mono ?_
 rw [EE.out]
 rintro e wB ⟨rfl,pB⟩
 have PB:=hide pB
 clear pB
 go_wp2
 go_end0
 refine⟨rfl,NmPost.trans (Rel.refl _ _) ?_ (show NmPost n0 wE ρ vb hv ms (n.kids.foldl (nameF f) _) wB from ?_)⟩
 ·exact (Fr.trans (Fr.below Ba.out) (.inl rfl) FE.out)
 ·have:=PB.out
  rw [show (exprOf r n).2.kids=n.kids from rfl] at this
  exact this
end Go.Proofs.YtnhidaamfnjdjaaGreatDoor
