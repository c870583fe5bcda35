import Derived.Test.YtnhidaamfnjdjaaGreatDoorZNamA
import Derived.Deep.RegionLaw
namespace Go.Proofs.YtnhidaamfnjdjaaGreatDoor
open Go.RowKit
theorem step_appendN {P:Program} {t e:TypeId} {z:Value} {size bytes:Nat} (hsz:0<size) (ht:P.underlying t=some (.slice e)) (hi:(P.info? e).map (fun i=>(i.zero,i.size,i.bytes))=some (some z,size,bytes)) (hzs:z.cells.size=size) (hby:bytes≤64)
  {ops:Array Oper} {o:Oper} {a:Act} {w:World} {K:Act->World->Prop} {Q:Exit->Act->World->Prop} {E:Prop}
  (hg:o.guard=none) (s x:Operand) (hop:o.op=Op.call { callee:=Callee.builtin Builtin.append,args:=#[s,x],argTypes:=#[t,t] })
  (v:Value) (n:Nat) (xs:List Value) (hs:a.eval s=v) (hown:w.ownsRow 0 e size v n xs) (ad:Addr) (c:Nat) (news:List Value) (hx:a.eval x=.slice (some ad) 1 c) (hl:news.length=size) (hnews:∀ (j:Nat) (u:Value),news[j]?=some u->w.cell? (ad.add j)=some u) (hone:∀ u∈news,u.oneCell'=true) (hn:n≤100000)
  (hK:∀ v' w',w'.ownsRow 0 e size v' (n+1) (xs++news)->w.grownBy w' v.ownBlock->(v'.ownBlock=v.ownBlock∨∃ g,v'.ownBlock=some g∧w.heap.size≤g)->K (a.put o.dst v') w') :
  if Region.wanted o (yielded ops a.tmps)=true then Oper.wp P o a w K Q else E:=by
 have hw:Region.wanted o (yielded ops a.tmps)=true:=by simp [Region.wanted,hg]
 rw [if_pos hw]
 obtain⟨v',w',hr,h2,h3,h4⟩:=run_appendN hsz ht hi hzs hby w o.type v n xs hown ad c news hl hnews hone hn
 unfold Oper.wp
 simp [execOp,hop,resolve,invoke,builtin,hs,hx,hr,Result.andThen]
 exact hK v' w' h2 h3 h4
theorem declInfo:(Tryz.prog.info? 124).map (fun i=>(i.zero,i.size,i.bytes))=some (some (.agg #[.string ⟨#[]⟩,.int .i64 0,.int .i64 0]),3,32):=by kernel_rfl
theorem oneCells3 (b:ByteArray) (x y:Int):∀ u∈[Value.string b,.int .i64 x,.int .i64 y],u.oneCell'=true:=by
 intro u hu;simp at hu;rcases hu with rfl|rfl|rfl <;> rfl
theorem flatD_append (l:List DC) (d:DC):flatD (l++[d])=flatD l++DC.cells d:=by simp [flatD]
theorem new_cells (w:World) (n:Nat) (h:w.heap.size=n) (x y z:Value) (t:TypeId):∀ (j:Nat) (u:Value),[x,y,z][j]?=some u->(w.alloc (.cells #[x,y,z] t)).cell? ((⟨n,0,none⟩:Addr).add j)=some u:=by
 subst h
 intro j u hu
 rw [add_at,cell_at (at_new _ _) j]
 simpa using hu
theorem declare_final {n0:Nat} {w w2 w4:World} {ρ:Nat->Role} {vb:Nat} {hv:Value} {r:RV} {ns:List PNode} {ms:List NM} (h:NmAt n0 w ρ vb hv r ns ms) {i:Nat} (hi:i<ns.length) {m:NM} (hm:ms[i]?=some m) {n:PNode} (hn:ns.getD i default=n) {O:Obj} {v':Value}
  (K2:Kept2 m.blk vb w w2) (Hm2:w2.heap[m.blk]?=some (.cells (nodeCells { n with nd:=r.next } m) 115)) (G4:(w2.alloc O).drew.grownBy w4 hv.ownBlock)
  (O4:w4.ownsRow 0 124 3 v' (r.hold.length+1) (flatD r.hold++[.string ⟨n.name.toArray⟩,.int .i64 n.kind,.int .i64 r.next]))
  (B4:v'.ownBlock=hv.ownBlock∨∃ g,v'.ownBlock=some g∧(w2.alloc O).drew.heap.size≤g) (Hv4:w4.heap[vb]?=some (.cells #[hv,.int .i64 (wrap64 (r.next+1)),.int .i64 r.line] 127)) :
  ∃ hv',NmAt n0 (w4.setCell ⟨vb,0,none⟩ v') ρ vb hv' (pushF r n) (ns.set i { n with nd:=r.next }) ms∧(hv'.ownBlock=hv.ownBlock∨∃ g,hv'.ownBlock=some g∧w.heap.size≤g)∧Fr n0 ρ vb hv w (w4.setCell ⟨vb,0,none⟩ v'):=by
 subst hn
 have hN:=h.tree.at' i (ns.getD i default) m (by rw [getD_lt _ _ _ hi];simp [hi]) hm
 have hl:=h.lt i m hm
 have hge:=h.rv.ge
 have hlv:=lt_of_at h.rv.cells
 have z2:=K2.size
 have zd:(w2.alloc O).drew.heap.size=w2.heap.size+1:=by show (w2.alloc O).heap.size=_;simp
 have z4:w2.heap.size+1≤w4.heap.size:=by have:=G4.size;omega
 have to4:∀ k,k<w2.heap.size->k≠vb->hv.ownBlock≠some k->(w4.setCell ⟨vb,0,none⟩ v').heap[k]?=w2.heap[k]?:=by
  intro k hk h1 h2
  rw [Below.heap_setCell _ _ _ _ (by simpa using h1),G4.block k (by omega) (Ne.symm h2)]
  exact Below.heap_alloc _ _ _ hk
 have all:∀ k,k<w.heap.size->k≠m.blk->k≠vb->hv.ownBlock≠some k->(w4.setCell ⟨vb,0,none⟩ v').heap[k]?=w.heap[k]?:=by
  intro k hk h0 h1 h2
  rw [to4 k (by omega) h1 h2];exact K2.block k hk h0 h1
 have hvlt:∀ k,k<n0->hv.ownBlock≠some k:=by intro k hk e;have:=(h.rv.hge k e).1;omega
 have hvb:∀ g,v'.ownBlock=some g->n0≤g∧g≠vb:=by
  intro g hg
  rcases B4 with e|⟨g',e,hl'⟩
  ·rw [e] at hg;exact h.rv.hge g hg
  ·rw [e] at hg;injection hg with hg;subst hg
   omega
 have hr:RvAt n0 (w4.setCell ⟨vb,0,none⟩ v') vb v' (pushF r (ns.getD i default)):=by
  refine⟨at_setCell Hv4 0 v',?_,hge,hvb⟩
  have e1:(pushF r (ns.getD i default)).hold=r.hold++[⟨(ns.getD i default).name,(ns.getD i default).kind,r.next⟩]:=rfl
  rw [e1,flatD_append,List.length_append]
  exact ownsRow_frame O4 (fun g hg=>Below.heap_setCell _ _ _ _ (by simpa using (hvb g hg).2))
 refine⟨v',?_,?_,?_⟩
 ·have hz:w.heap.size≤(w4.setCell ⟨vb,0,none⟩ v').heap.size:=by simp [World.setCell];omega
  have hN':NodeAt (w4.setCell ⟨vb,0,none⟩ v') ρ ((ns.getD i default).kids.map (ptrTo ms)) i { ns.getD i default with nd:=r.next } m:=by
   refine⟨?_,hN.role,?_,hN.exrole,Nat.le_trans hN.exlt hz,?_,hN.arrole⟩
   ·rw [to4 m.blk (by have:=lt_of_at hN.cells;omega) (by omega) (hvlt _ hl.1)];exact Hm2
   ·refine hN.expr.frame (fun k a b=>all k (Nat.lt_of_lt_of_le b hN.exlt) ?_ (by omega) (hvlt k (by omega)))
    rintro rfl
    have:=hN.exrole _ a b
    rw [hN.role] at this;cases this
   ·refine ownsRow_frame hN.own (fun g hg=>all g (hN.own.lt g hg).2 ?_ (by have:=hl.2.2 g hg;omega) (hvlt g (hl.2.2 g hg)))
    rintro rfl
    have:=hN.arrole _ hg
    rw [hN.role] at this;cases this
  refine⟨?_,hr,h.lt⟩
  refine⟨by rw [h.tree.len];simp,?_⟩
  intro j n1 m1 hn1 hm1
  by_cases e:j=i
  ·subst e
   rw [List.getElem?_set_self hi] at hn1
   injection hn1 with hn1;subst hn1
   rw [hm] at hm1;injection hm1 with hm1;subst hm1
   exact hN'
  ·have hNj:=h.tree.at' j n1 m1 (set_get_ne _ _ _ _ _ hn1 e) hm1
   have hlj:=h.lt j m1 hm1
   have nn:∀ k,(ρ k=.node j∨ρ k=.arr j∨ρ k=.ex j)->k≠m.blk:=by
    intro k hk e2;subst e2
    rw [hN.role] at hk
    rcases hk with hk|hk|hk <;> simp at hk
    exact e hk.symm
   refine⟨?_,hNj.role,?_,hNj.exrole,Nat.le_trans hNj.exlt hz,?_,hNj.arrole⟩
   ·rw [all m1.blk (lt_of_at hNj.cells) (nn _ (.inl hNj.role)) (by omega) (hvlt _ hlj.1)];exact hNj.cells
   ·exact hNj.expr.frame (fun k a b=>all k (Nat.lt_of_lt_of_le b hNj.exlt) (nn _ (.inr (.inr (hNj.exrole k a b)))) (by omega) (hvlt k (by omega)))
   ·exact ownsRow_frame hNj.own (fun g hg=>all g (hNj.own.lt g hg).2 (nn _ (.inr (.inl (hNj.arrole g hg)))) (by have:=hlj.2.2 g hg;omega) (hvlt g (hlj.2.2 g hg)))
 ·rcases B4 with e|⟨g,e,hg⟩
  ·exact .inl e
  ·exact .inr ⟨g,e,by omega⟩
 ·refine⟨?_,?_,?_,by simp [World.setCell];omega,?_⟩
  ·show w4.os=_;rw [G4.os];exact K2.os
  ·show w4.tape=_;rw [G4.tape];exact K2.tape
  ·show w4.output=_;rw [G4.output];exact K2.output
  ·intro k hk h1 h2 h3
   refine all k hk ?_ h2 h3
   rintro rfl
   have:=h1 hl.1
   rw [hN.role] at this;cases this
end Go.Proofs.YtnhidaamfnjdjaaGreatDoor
