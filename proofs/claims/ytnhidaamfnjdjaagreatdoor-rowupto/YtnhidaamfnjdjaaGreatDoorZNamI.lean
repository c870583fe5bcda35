import Derived.Test.YtnhidaamfnjdjaaGreatDoorZNamF
import Derived.Test.YtnhidaamfnjdjaaGreatDoorZNamEd
namespace Go.Proofs.YtnhidaamfnjdjaaGreatDoor
open Go.RowKit
theorem Boxes.frR {w w0 w':World} {vb:Nat} {m:NM} {a n0:Nat} {ρ:Nat->Role} {hv hv1:Value} (h:Boxes w vb m a) (hf:Fr n0 ρ vb hv1 w w') (h1:n0≤a) (h2:vb<a) (hr:Rel w0 hv hv1) (h3:∀ g,hv.ownBlock=some g->g<a) (hz:a+2≤w0.heap.size):Boxes w' vb m a :=
 h.fr hf h1 h2 (fun g hg=>by
  rcases hr with e|⟨g',e,hl⟩
  ·rw [e] at hg;exact .inl (h3 g hg)
  ·rw [e] at hg;injection hg with hg;subst hg;omega)
theorem pop_own {w:World} {a:Option Addr} {n c:Nat} {l:List DC} {d:DC} (h:w.ownsRow 0 124 3 (.slice a (n+1) c) (n+1) (flatD (l++[d]))) (hn:l.length=n):w.ownsRow 0 124 3 (.slice a n c) n (flatD l):=by
 rcases h.2 with ⟨_,h0⟩|⟨g,cap,cur,e,hb,hg,h1,h2,h3,h4⟩
 ·omega
 ·injection e with e1 _ e3
  subst e1;subst e3
  refine⟨by rw [flatD_len,hn],.inr ⟨g,_,cur,rfl,hb,hg,by omega,h2,h3,?_⟩⟩
  rw [flatD_append] at h4
  have hl:(flatD l).length=n * 3:=by rw [flatD_len,hn]
  have:(cur.toList.take ((n+1) * 3)).take (n * 3)=flatD l:=by rw [h4,<-hl,List.take_left'];rfl
  rw [List.take_take] at this
  rw [<-this];congr 1;omega
theorem tree_frame_lt {n0:Nat} {w w':World} {ρ:Nat->Role} {ns:List PNode} {ms:List NM} (h:TreeAt w ρ ns ms) (lt:∀ (i:Nat) (m:NM),ms[i]?=some m->m.blk<n0∧m.ehi≤n0∧∀ g,m.sl.ownBlock=some g->g<n0) (hz:w.heap.size≤w'.heap.size) (hf:∀ k,k<n0->w'.heap[k]?=w.heap[k]?):TreeAt w' ρ ns ms:=by
 refine⟨h.len,fun i n m hn hm=>?_⟩
 have hN:=h.at' i n m hn hm
 have hl:=lt i m hm
 refine⟨?_,hN.role,?_,hN.exrole,Nat.le_trans hN.exlt hz,?_,hN.arrole⟩
 ·rw [hf _ hl.1];exact hN.cells
 ·exact hN.expr.frame (fun k a b=>hf k (by omega))
 ·exact ownsRow_frame hN.own (fun g hg=>hf g (hl.2.2 g hg))
theorem NmAt.pop {n0:Nat} {w:World} {ρ:Nat->Role} {vb:Nat} {a:Option Addr} {n c:Nat} {r:RV} {ns:List PNode} {ms:List NM} {l:List DC} {d:DC} (h:NmAt n0 w ρ vb (.slice a (n+1) c) r ns ms) (hh:r.hold=l++[d]) (hn:l.length=n) :
  NmAt n0 (w.setCell ⟨vb,0,none⟩ (.slice a n c)) ρ vb (.slice a n c) { r with hold:=r.hold.dropLast } ns ms∧Fr n0 ρ vb (.slice a (n+1) c) w (w.setCell ⟨vb,0,none⟩ (.slice a n c)):=by
 have hge:=h.rv.ge
 have hd:r.hold.dropLast=l:=by rw [hh];simp
 have ob:(Value.slice a n c).ownBlock=(Value.slice a (n+1) c).ownBlock:=by cases a <;> rfl
 refine⟨⟨tree_frame_lt h.tree h.lt (by simp [World.setCell]) (fun k hk=>Below.heap_setCell _ _ _ _ (by simp;omega)),⟨at_setCell h.rv.cells 0 _,?_,hge,?_⟩,h.lt⟩,⟨rfl,rfl,rfl,by simp [World.setCell],?_⟩⟩
 ·rw [hd]
  have h1:=h.rv.own
  rw [hh] at h1
  have h2:=pop_own (by simpa [hn] using h1) hn
  rw [show l.length=n from hn]
  refine ownsRow_frame h2 (fun g hg=>Below.heap_setCell _ _ _ _ ?_)
  rw [ob] at hg
  simpa using (h.rv.hge g hg).2
 ·intro g hg
  rw [ob] at hg
  exact h.rv.hge g hg
 ·intro k hk h1 h2 h3
  exact Below.heap_setCell _ _ _ _ (by simpa using h2)
set_option maxHeartbeats 4000000 in
theorem nproc_decl (f:Nat) (ih:NameSaid f) (n0:Nat) (w:World) (ρ:Nat->Role) (vb:Nat) (hv:Value) (r:RV) (ns:List PNode) (ms:List NM) (i:Nat) (m:NM) (h:NmAt n0 w ρ vb hv r ns ms) (hi:i<ns.length) (hm:ms[i]?=some m) (hup:Up ns) (hf:ns.length - i≤f+1) (hpos:0<r.hold.length) (hlim:r.hold.length+(f+1)≤100000) (hk:(ns.getD i default).kind=15∨(ns.getD i default).kind=16) :
  Calls Tryz.prog 63 #[.pointer (some ⟨vb,0,none⟩),.pointer (some ⟨m.blk,0,none⟩)] w fun e w'=>e=.returned (.tuple #[])∧NmPost n0 w ρ vb hv ms (nameF (f+1) (r,ns) i) w':=by
 have hge:=h.rv.ge
 have hlv:=lt_of_at h.rv.cells
 have hl:=h.lt i m hm
 have bA:Below w.heap.size w ((w.alloc (.cells #[.pointer (some ⟨vb,0,none⟩)] 122)).alloc (.cells #[.pointer (some ⟨m.blk,0,none⟩)] 54)):=((Below.refl _ _).alloc (Nat.le_refl _) _).alloc (by simp) _
 have hA:=h.below bA
 have a1:=at_alloc (at_new w (.cells #[.pointer (some ⟨vb,0,none⟩)] 122)) (.cells #[.pointer (some ⟨m.blk,0,none⟩)] 54)
 have a2:=at_new (w.alloc (.cells #[.pointer (some ⟨vb,0,none⟩)] 122)) (.cells #[.pointer (some ⟨m.blk,0,none⟩)] 54)
 simp only [World.size_alloc] at a2
 have hhv:∀ g,hv.ownBlock=some g->g<w.heap.size:=fun g hg=>(h.rv.own.lt g hg).2
 have hNA:=hA.node hi hm
 have e1:nameF (f+1) (r,ns) i=({ ((ns.getD i default).kids.foldl (nameF f) (pushF r (ns.getD i default),ns.set i { ns.getD i default with nd:=r.next })).1 with hold:=((ns.getD i default).kids.foldl (nameF f) (pushF r (ns.getD i default),ns.set i { ns.getD i default with nd:=r.next })).1.hold.dropLast },((ns.getD i default).kids.foldl (nameF f) (pushF r (ns.getD i default),ns.set i { ns.getD i default with nd:=r.next })).2):=by
  simp only [nameF];rw [if_pos hk]
 rw [e1]
 have kq:(((ns.getD i default).kids.foldl (nameF f) (pushF r (ns.getD i default),ns.set i { ns.getD i default with nd:=r.next })).1).hold=r.hold++[⟨(ns.getD i default).name,(ns.getD i default).kind,r.next⟩] :=
  (fold_keep (fun x y:RV×List PNode=>SameShape x.2 y.2∧y.1.hold=x.1.hold) (fun x=>⟨SameShape.refl _,rfl⟩) (fun x y z h k=>⟨h.1.trans k.1,k.2.trans h.2⟩) (nameF f) (fun x k=>nameF_keep f x k) _ (pushF r (ns.getD i default),ns.set i { ns.getD i default with nd:=r.next })).2
 generalize hn:ns.getD i default=n at *
 have k0:((w.alloc (.cells #[.pointer (some ⟨vb,0,none⟩)] 122)).alloc (.cells #[.pointer (some ⟨m.blk,0,none⟩)] 54)).cell? ⟨m.blk,0,none⟩=some (.int .i64 n.kind):=cell_at hNA.cells 0
 have b1:Boxes ((w.alloc (.cells #[.pointer (some ⟨vb,0,none⟩)] 122)).alloc (.cells #[.pointer (some ⟨m.blk,0,none⟩)] 54)) vb m w.heap.size:=⟨cell_at a1 0,cell_at a2 0⟩
 have sz:w.heap.size+2=((w.alloc (.cells #[.pointer (some ⟨vb,0,none⟩)] 122)).alloc (.cells #[.pointer (some ⟨m.blk,0,none⟩)] 54)).heap.size:=by simp
 have H:=hide h;have Ba:=hide bA;have HA:=hide hA;have Hn:=hide hn;have B1:=hide b1;have Hup:=hide hup;have Ih:=hide ih;have Kq:=hide kq
 have hk':(n.kind == 15)=true∨((n.kind == 15)=false∧(n.kind == 16)=true):=by
  rcases hk with hk|hk <;> simp [hk]
 clear h bA hA hNA hn hk a1 a2 e1 b1 hup ih kq
 rcases hk' with g1|⟨g1,g2⟩
 all_goals
  go_enter Tryz.func63,Tryz.ntmps63
  go_wp2_with fail
  generalize ((w.alloc (.cells #[.pointer (some ⟨vb,0,none⟩)] 122)).alloc (.cells #[.pointer (some ⟨m.blk,0,none⟩)] 54))=wA at Ba HA k0 B1 sz ⊢
  refine (declare_any n0 wA ρ vb hv r ns ms HA.out i hi m hm (by omega)).mono ?_
  rw [Hn.out]
  rintro e w1 ⟨rfl,hv1,n1,rl1,f1⟩
  have bx1:=B1.out.fr f1 (by omega) (by omega) (fun g hg=>.inl (hhv g hg))
  have p1:=bx1.c1
  have p2:=bx1.c2
  have N1:=hide n1;have R1:Hid (Rel wA hv hv1):=rl1;have F1:=hide f1;have Bx1:=hide bx1
  have s1:=f1.size
  clear n1 rl1 f1 bx1
  have EE:Hid ((ns.set i { n with nd:=r.next }).getD i default={ n with nd:=r.next }):=set_getD _ _ _ _ hi
  have upE:=Hup.out.shape (SameShape.set ns i { n with nd:=r.next } (by rw [Hn.out]) (by rw [Hn.out]))
  have UpE:=hide upE
  have hl1:(pushF r n).hold.length=r.hold.length+1:=by simp [pushF]
  clear upE
  go_wp2_with fail
  refine (below_any f Ih.out n0 w1 ρ vb hv1 (pushF r n) (ns.set i { n with nd:=r.next }) ms i m N1.out (by simpa using hi) hm UpE.out (by simpa using hf) (by omega) (by omega)).mono ?_
  rw [EE.out]
  rintro e w2 ⟨rfl,hv2,n2,rl2,f2⟩
  have bx2:=Boxes.frR Bx1.out f2 (by omega) (by omega) R1.out hhv (by omega)
  obtain⟨sa,sc,hs2⟩:=ownsRow_len n2.rv.own
  generalize hq:n.kids.foldl (nameF f) (pushF r n,ns.set i { n with nd:=r.next })=q at n2 Kq hs2 ⊢
  have hql:q.1.hold.length=r.hold.length+1:=by rw [Kq.out];simp
  rw [hql] at hs2
  subst hs2
  have c1:=bx2.c1
  have c2:=bx2.c2
  have v0:w2.cell? ⟨vb,0,none⟩=some (.slice sa (r.hold.length+1) sc):=cell_at n2.rv.cells 0
  have fz:=fun i=>frozen_at n2.rv.cells i
  have hcap:r.hold.length+1≤sc:=by
   rcases n2.rv.own.2 with ⟨_,h0⟩|⟨g,cap,cur,e,_,_,h1,_⟩
   ·omega
   ·injection e with _ e2 e3;subst e3;omega
  have hcap2:(r.hold.length:Int)≤(sc:Int):=by omega
  have hsc:¬ sc=0:=by omega
  have pp:=NmAt.pop n2 Kq.out rfl
  have PP:=hide pp;have N2:=hide n2;have F2:=hide f2;have R2:=hide rl2;have Hq:=hide hq
  clear pp n2 f2 rl2 bx2 hq
  go_wp2_with fail
  go_region
  go_wp2
  refine bodyPost_ret (v:=.tuple #[]) (by simp [results,Tryz.results63,go_sem]) rfl ⟨rfl,?_⟩
  have pd:=PP.out
  rw [Hq.out]
  refine⟨_,pd.1.drew,?_,?_⟩
  ·have r12:Rel w hv (.slice sa (r.hold.length+1) sc):=Rel.trans (w1:=w1) (by
    rcases R1.out with e|⟨g,e,hg⟩
    ·exact .inl e
    ·exact .inr ⟨g,e,by omega⟩) (by omega) R2.out
   refine Rel.trans (w1:=w2) r12 (by have:=F2.out.size;omega) (.inl ?_)
   cases sa <;> rfl
  ·have fA:Fr n0 ρ vb hv w wA:=Fr.below Ba.out
   have f01:=fA.trans (.inl rfl) F1.out
   have r1':Rel w hv hv1:=by
    rcases R1.out with e|⟨g,e,hg⟩
    ·exact .inl e
    ·exact .inr ⟨g,e,by omega⟩
   have f02:=f01.trans r1' F2.out
   have r12:Rel w hv (.slice sa (r.hold.length+1) sc):=Rel.trans (w1:=w1) r1' (by omega) R2.out
   have f03:=f02.trans r12 pd.2
   exact⟨f03.os,f03.tape,f03.output,f03.size,f03.block⟩
theorem names_all:∀ f:Nat,NameSaid f
 | 0=>by
  intro n0 w ρ vb hv r ns ms i m h hi hm hup hf hpos hlim
  omega
 | f+1=>by
  intro n0 w ρ vb hv r ns ms i m h hi hm hup hf hpos hlim
  have ih:=names_all f
  by_cases hk:(ns.getD i default).kind=15∨(ns.getD i default).kind=16
  ·exact nproc_decl f ih n0 w ρ vb hv r ns ms i m h hi hm hup hf hpos hlim hk
  ·simp only [not_or] at hk
   by_cases h3:(ns.getD i default).kind=3
   ·exact nproc_is3 f ih n0 w ρ vb hv r ns ms i m h hi hm hup hf hpos (by omega) h3
   ·by_cases h4:(ns.getD i default).kind=4
    ·exact nproc_is4 f ih n0 w ρ vb hv r ns ms i m h hi hm hup hf hpos (by omega) h4
    ·by_cases h5:(ns.getD i default).kind=5
     ·exact nproc_is5 f ih n0 w ρ vb hv r ns ms i m h hi hm hup hf hpos (by omega) h5
     ·by_cases h6:(ns.getD i default).kind=14
      ·exact nproc_is14 f ih n0 w ρ vb hv r ns ms i m h hi hm hup hf hpos (by omega) h6
      ·exact nproc_else f ih n0 w ρ vb hv r ns ms i m h hi hm hup hf hpos (by omega) hk.1 hk.2 h3 h4 h5 h6
end Go.Proofs.YtnhidaamfnjdjaaGreatDoor
namespace Go.Proofs.YtnhidaamfnjdjaaGreatDoor
open Go.RowKit
structure JunkKept (ρ:Nat->Role) (w w':World):Prop where
 os:w'.os=w.os
 tape:w'.tape=w.tape
 output:w'.output=w.output
 size:w.heap.size≤w'.heap.size
 block:∀ k,k<w.heap.size->ρ k=.junk->w'.heap[k]?=w.heap[k]?
set_option maxHeartbeats 1000000 in
theorem Names_any (w:World) (ρ:Nat->Role) (ns:List PNode) (ms:List NM) (i:Nat) (m:NM) (h:TreeAt w ρ ns ms) (hi:i<ns.length) (hm:ms[i]?=some m) (hup:Up ns) (hN:ns.length≤1000) :
  Calls Tryz.prog 43 #[.pointer (some ⟨m.blk,0,none⟩)] w fun e w'=>e=.returned (.int .i64 (nameF ns.length (startR,ns) i).1.line)∧TreeAt w' ρ (nameF ns.length (startR,ns) i).2 ms∧JunkKept ρ w w':=by
 have bA:Below w.heap.size w ((w.alloc (.cells #[.string ⟨#[105,110]⟩,.int .i64 16,.int .i64 1,.string ⟨#[111,117,116]⟩,.int .i64 16,.int .i64 2] 124)).alloc (.cells #[.slice (some ⟨w.heap.size,0,none⟩) 2 2,.int .i64 3,.int .i64 0] 127)):=((Below.refl _ _).alloc (Nat.le_refl _) _).alloc (by simp) _
 have a1:=at_alloc (at_new w (.cells #[.string ⟨#[105,110]⟩,.int .i64 16,.int .i64 1,.string ⟨#[111,117,116]⟩,.int .i64 16,.int .i64 2] 124)) (.cells #[.slice (some ⟨w.heap.size,0,none⟩) 2 2,.int .i64 3,.int .i64 0] 127)
 have a2:=at_new (w.alloc (.cells #[.string ⟨#[105,110]⟩,.int .i64 16,.int .i64 1,.string ⟨#[111,117,116]⟩,.int .i64 16,.int .i64 2] 124)) (.cells #[.slice (some ⟨w.heap.size,0,none⟩) 2 2,.int .i64 3,.int .i64 0] 127)
 simp only [World.size_alloc] at a2
 have hA:NmAt w.heap.size ((w.alloc (.cells #[.string ⟨#[105,110]⟩,.int .i64 16,.int .i64 1,.string ⟨#[111,117,116]⟩,.int .i64 16,.int .i64 2] 124)).alloc (.cells #[.slice (some ⟨w.heap.size,0,none⟩) 2 2,.int .i64 3,.int .i64 0] 127)) ρ (w.heap.size+1) (.slice (some ⟨w.heap.size,0,none⟩) 2 2) startR ns ms:=by
  refine⟨h.frame bA.size (fun b _ hlt _=>⟨bA.block b hlt,rfl⟩),⟨a2,?_,by omega,?_⟩,?_⟩
  ·exact⟨rfl,.inr ⟨w.heap.size,2,_,rfl,Nat.zero_le _,a1,by decide,by decide,rfl,rfl⟩⟩
  ·intro g hg
   simp [Value.ownBlock] at hg
   omega
  ·intro j mj hj
   have hjl:j<ns.length:=by
    rw [<-h.len]
    rcases Nat.lt_or_ge j ms.length with h'|h'
    ·exact h'
    ·simp [List.getElem?_eq_none h'] at hj
   have hNj:=h.at' j ns[j] mj (by simp [hjl]) hj
   exact⟨lt_of_at hNj.cells,hNj.exlt,fun g hg=>(hNj.own.lt g hg).2⟩
 have HA:=hide hA;have Ba:=hide bA;have Hup:=hide hup
 clear hA bA a1 a2 h hup
 generalize hq:nameF ns.length (startR,ns) i=q
 have Hq:=hide hq
 clear hq
 go_enter Tryz.func43,Tryz.ntmps43
 go_wp2_with fail
 refine (names_all ns.length w.heap.size _ ρ (w.heap.size+1) _ startR ns ms i m HA.out hi hm Hup.out (by omega) (by decide) (by simp [startR];omega)).mono ?_
 rw [Hq.out]
 rintro e w2 ⟨rfl,hv2,n2,rl2,f2⟩
 have c2:w2.cell? ⟨w.heap.size+1,2,none⟩=some (.int .i64 q.1.line):=cell_at n2.rv.cells 2
 have N2:=hide n2;have F2:=hide f2
 clear n2 f2 rl2
 go_wp2
 go_ret
 refine⟨rfl,N2.out.tree,⟨F2.out.os,F2.out.tape,F2.out.output,Nat.le_trans Ba.out.size F2.out.size,?_⟩⟩
 intro k hk hj
 rw [F2.out.block k (by have:=Ba.out.size;omega) (fun _=>hj) (by omega) (by simp [Value.ownBlock];omega)]
 exact Ba.out.block k hk
end Go.Proofs.YtnhidaamfnjdjaaGreatDoor
