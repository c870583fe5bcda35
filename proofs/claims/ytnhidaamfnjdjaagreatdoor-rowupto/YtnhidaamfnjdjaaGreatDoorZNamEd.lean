import Derived.Test.YtnhidaamfnjdjaaGreatDoorZNamE
namespace Go.Proofs.YtnhidaamfnjdjaaGreatDoor
open Go.RowKit
set_option maxHeartbeats 8000000 in
theorem declare_any (n0:Nat) (w:World) (ρ:Nat->Role) (vb:Nat) (hv:Value) (r:RV) (ns:List PNode) (ms:List NM) (h:NmAt n0 w ρ vb hv r ns ms) (i:Nat) (hi:i<ns.length) (m:NM) (hm:ms[i]?=some m) (hlim:r.hold.length≤100000) :
  Calls Tryz.prog 116 #[.pointer (some ⟨vb,0,none⟩),.pointer (some ⟨m.blk,0,none⟩)] w fun e w'=>e=.returned (.tuple #[]) ∧
   ∃ hv',NmAt n0 w' ρ vb hv' (pushF r (ns.getD i default)) (ns.set i { ns.getD i default with nd:=r.next }) ms∧(hv'.ownBlock=hv.ownBlock∨∃ g,hv'.ownBlock=some g∧w.heap.size≤g)∧Fr n0 ρ vb hv w w':=by
 have hN:=h.tree.at' i (ns.getD i default) m (by rw [getD_lt _ _ _ hi];simp [hi]) hm
 have hl:=h.lt i m hm
 have hge:=h.rv.ge
 have hne:m.blk≠vb:=by omega
 obtain⟨sa,sc,rfl⟩:=ownsRow_len h.rv.own
 generalize hnn:ns.getD i default=n at *
 have c1:w.cell? ⟨vb,1,none⟩=some (.int .i64 r.next):=cell_at h.rv.cells 1
 have cm3:w.cell? ⟨m.blk,3,none⟩=some (.int .i64 n.nd):=cell_at hN.cells 3
 have fm:=fun i=>frozen_at hN.cells i
 -- behind the first store
 have hm1:∀ v,(w.setCell ⟨m.blk,3,none⟩ v).heap[vb]?=some (.cells #[.slice sa r.hold.length sc,.int .i64 r.next,.int .i64 r.line] 127):=fun v=>at_setCell_other h.rv.cells hne.symm _ _
 have c1':∀ v,(w.setCell ⟨m.blk,3,none⟩ v).cell? ⟨vb,1,none⟩=some (.int .i64 r.next):=fun v=>cell_at (hm1 v) 1
 have fv':∀ v i,(w.setCell ⟨m.blk,3,none⟩ v).frozen? ⟨vb,i,none⟩=false:=fun v i=>frozen_at (hm1 v) i
 have H:=hide h;have HN:=hide hN;have Hnn:=hide hnn;have Hm1:=hide hm1
 clear h hN hnn hm1
 go_enter Tryz.func116,Tryz.ntmps116
 go_wp2_with fail
 have hv2:((w.setCell ⟨m.blk,3,none⟩ (.int .i64 r.next)).setCell ⟨vb,1,none⟩ (.int .i64 (wrap64 (r.next+1)))).heap[vb]?=some (.cells #[.slice sa r.hold.length sc,.int .i64 (wrap64 (r.next+1)),.int .i64 r.line] 127):=at_setCell (Hm1.out _) 1 _
 have hm2:((w.setCell ⟨m.blk,3,none⟩ (.int .i64 r.next)).setCell ⟨vb,1,none⟩ (.int .i64 (wrap64 (r.next+1)))).heap[m.blk]?=some (.cells (nodeCells { n with nd:=r.next } m) 115):=at_setCell_other (at_setCell HN.out.cells 3 _) hne 1 _
 have k2:Kept2 m.blk vb w ((w.setCell ⟨m.blk,3,none⟩ (.int .i64 r.next)).setCell ⟨vb,1,none⟩ (.int .i64 (wrap64 (r.next+1)))):=((Kept2.below (Below.refl _ _)).setA _ _).setB _ _
 generalize ((w.setCell ⟨m.blk,3,none⟩ (.int .i64 r.next)).setCell ⟨vb,1,none⟩ (.int .i64 (wrap64 (r.next+1))))=w2 at hv2 hm2 k2 ⊢
 have own2:w2.ownsRow 0 124 3 (.slice sa r.hold.length sc) r.hold.length (flatD r.hold):=by
  refine ownsRow_frame H.out.rv.own (fun g hg=>k2.block g (H.out.rv.own.lt g hg).2 ?_ (H.out.rv.hge g hg).2)
  have:=(H.out.rv.hge g hg).1;omega
 have d0:w2.cell? ⟨vb,0,none⟩=some (.slice sa r.hold.length sc):=cell_at hv2 0
 have e0:w2.cell? ⟨m.blk,0,none⟩=some (.int .i64 n.kind):=cell_at hm2 0
 have e2:w2.cell? ⟨m.blk,2,none⟩=some (.string ⟨n.name.toArray⟩):=cell_at hm2 2
 have e3:w2.cell? ⟨m.blk,3,none⟩=some (.int .i64 r.next):=cell_at hm2 3
 have hlv:=lt_of_at hv2
 have Own2:=hide own2;have Hv2:=hide hv2;have Hm2:=hide hm2;have K2:=hide k2
 clear own2 hv2 hm2 k2 c1 cm3 fm c1' fv'
 have law:∀ (W:World),W.heap=w2.heap->∀ (v':Value) (w4:World),w4.ownsRow 0 124 3 v' (r.hold.length+1) (flatD r.hold++[.string ⟨n.name.toArray⟩,.int .i64 n.kind,.int .i64 r.next])->(W.alloc (.cells #[.string ⟨n.name.toArray⟩,.int .i64 n.kind,.int .i64 r.next] 124)).drew.grownBy w4 (Value.slice sa r.hold.length sc).ownBlock ->
   w4.heap[vb]?=some (.cells #[.slice sa r.hold.length sc,.int .i64 (wrap64 (r.next+1)),.int .i64 r.line] 127):=by
  intro W hW v' w4 o4 g4
  rw [g4.block vb (by show vb<(W.alloc _).heap.size;simp [hW];omega) (fun e=>(H.out.rv.hge vb e.symm).2 rfl)]
  show (W.alloc _).heap[vb]?=_
  rw [Below.heap_alloc _ _ _ (by rw [hW];exact hlv),hW]
  exact Hv2.out
 have Law:=hide law
 clear law
 go_region_law (refine step_appendN (by decide) Tryz.underlying125 declInfo rfl (by decide) rfl _ _ rfl (.slice sa r.hold.length sc) r.hold.length (flatD r.hold) (by simp [Act.eval]) (by exact (ownsRow_frame Own2.out (fun _ _=>rfl)).alloc _) ⟨w2.heap.size,0,none⟩ 1 [.string ⟨n.name.toArray⟩,.int .i64 n.kind,.int .i64 r.next] (by simp [Act.eval]) rfl (by exact new_cells _ _ rfl _ _ _ _) (oneCells3 _ _ _) hlim ?_;intro v' w4 o4 g4 b4;obtain⟨va,vc,rfl⟩:=ownsRow_len o4;have hv4:=Law.out _ rfl _ _ o4 g4;have f4:w4.cell? ⟨vb,0,none⟩=some (.slice sa r.hold.length sc):=cell_at hv4 0;have z4:∀ i,w4.frozen? ⟨vb,i,none⟩=false:=(fun i=>frozen_at hv4 i);have O4:=hide o4;have G4:=hide g4;have B4:=hide b4;have Hv4:=hide hv4;clear o4 g4 b4 hv4)
 all_goals
  go_wp2
  go_end0
  exact⟨rfl,declare_final H.out hi hm Hnn.out K2.out Hm2.out G4.out O4.out B4.out Hv4.out⟩
end Go.Proofs.YtnhidaamfnjdjaaGreatDoor
