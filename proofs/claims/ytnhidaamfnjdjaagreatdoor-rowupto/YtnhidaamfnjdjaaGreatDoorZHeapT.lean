import Derived.Test.YtnhidaamfnjdjaaGreatDoorZHeap
import Derived.Test.YtnhidaamfnjdjaaGreatDoorZPure
import Derived.Deep.DeepAppendWide
import Derived.Deep.AppendSrc
import Derived.Test.YtnhidaamfnjdjaaGreatDoorProg
import Derived.WalkKit
import Derived.Laws.OwnMore
import Derived.Deep.RegionLaw
namespace Go.Proofs.YtnhidaamfnjdjaaGreatDoor
open Go.RowKit
inductive Role where
 | node (i:Nat)|arr (i:Nat)|ex (i:Nat)|pars|carr|junk
structure NM where
 blk:Nat
 ve:Option Addr
 elo:Nat
 ehi:Nat
 sl:Value
instance : Inhabited NM := ⟨⟨0, none, 0, 0, .slice none 0 0⟩⟩
def blkOf (ms:List NM) (k:Nat):Nat:=(ms.getD k default).blk
def ptrTo (ms:List NM) (k:Nat):Value:=.pointer (some ⟨blkOf ms k,0,none⟩)
def nodeCells (n:PNode) (m:NM):Array Value :=
 #[.int .i64 n.kind,.int .i64 n.line,.string ⟨n.name.toArray⟩,.int .i64 n.nd,.string ⟨n.chan.toArray⟩,.int .i64 n.cd,.pointer m.ve,m.sl]
structure NodeAt (w:World) (ρ:Nat->Role) (kids:List Value) (i:Nat) (n:PNode) (m:NM):Prop where
 cells:w.heap[m.blk]?=some (.cells (nodeCells n m) 115)
 role:ρ m.blk=.node i
 expr:RepE w n.expr m.elo m.ehi m.ve
 exrole:∀ b,m.elo≤b->b<m.ehi->ρ b=.ex i
 exlt:m.ehi≤w.heap.size
 own:w.ownsRow 0 54 1 m.sl n.kids.length kids
 arrole:∀ g,m.sl.ownBlock=some g->ρ g=.arr i
structure TreeAt (w:World) (ρ:Nat->Role) (ns:List PNode) (ms:List NM):Prop where
 len:ms.length=ns.length
 at':∀ i n m,ns[i]?=some n->ms[i]?=some m->NodeAt w ρ (n.kids.map (ptrTo ms)) i n m
theorem TreeAt.get {w:World} {ρ:Nat->Role} {ns:List PNode} {ms:List NM} (h:TreeAt w ρ ns ms) {i:Nat} (hi:i<ns.length) :
  ∃ m,ms[i]?=some m∧NodeAt w ρ ((ns.getD i default).kids.map (ptrTo ms)) i (ns.getD i default) m∧blkOf ms i=m.blk:=by
 have hm:i<ms.length:=by rw [h.len];exact hi
 refine⟨ms[i],by simp [hm],?_,?_⟩
 ·have:=h.at' i ns[i] ms[i] (by simp [hi]) (by simp [hm])
  rw [getD_lt _ _ _ hi];exact this
 ·unfold blkOf;rw [getD_lt _ _ _ hm]
theorem ownsRow_frame {w w':World} {base:Nat} {e:TypeId} {size:Nat} {v:Value} {n:Nat} {xs:List Value} (h:w.ownsRow base e size v n xs) (hf:∀ g,v.ownBlock=some g->w'.heap[g]?=w.heap[g]?):w'.ownsRow base e size v n xs:=by
 refine⟨h.1,?_⟩
 rcases h.2 with hn|⟨g,cap,cur,rfl,hb,hgg,rest⟩
 ·exact .inl hn
 ·exact .inr ⟨g,cap,cur,rfl,hb,by rw [hf g rfl];exact hgg,rest⟩
theorem NodeAt.frame {w w':World} {ρ ρ':Nat->Role} {kids:List Value} {i:Nat} {n:PNode} {m:NM} (h:NodeAt w ρ kids i n m) (hz:w.heap.size≤w'.heap.size)
  (hf:∀ b,b<w.heap.size->(ρ b=.node i∨ρ b=.arr i∨ρ b=.ex i)->w'.heap[b]?=w.heap[b]?∧ρ' b=ρ b):NodeAt w' ρ' kids i n m:=by
 have hlt:=lt_of_at h.cells
 refine⟨?_,?_,?_,?_,Nat.le_trans h.exlt hz,?_,?_⟩
 ·rw [(hf m.blk hlt (.inl h.role)).1];exact h.cells
 ·rw [(hf m.blk hlt (.inl h.role)).2];exact h.role
 ·exact h.expr.frame (fun k a b=>(hf k (Nat.lt_of_lt_of_le b h.exlt) (.inr (.inr (h.exrole k a b)))).1)
 ·intro b x y
  rw [(hf b (Nat.lt_of_lt_of_le y h.exlt) (.inr (.inr (h.exrole b x y)))).2];exact h.exrole b x y
 ·exact ownsRow_frame h.own (fun g hg=>(hf g (h.own.lt g hg).2 (.inr (.inl (h.arrole g hg)))).1)
 ·intro g hg
  rw [(hf g (h.own.lt g hg).2 (.inr (.inl (h.arrole g hg)))).2];exact h.arrole g hg
theorem TreeAt.frame {w w':World} {ρ ρ':Nat->Role} {ns:List PNode} {ms:List NM} (h:TreeAt w ρ ns ms) (hz:w.heap.size≤w'.heap.size)
  (hf:∀ b i,b<w.heap.size->(ρ b=.node i∨ρ b=.arr i∨ρ b=.ex i)->w'.heap[b]?=w.heap[b]?∧ρ' b=ρ b):TreeAt w' ρ' ns ms :=
 ⟨h.len,fun i n m hn hm=>(h.at' i n m hn hm).frame hz (fun b hb hr=>hf b i hb hr)⟩
structure ParserAt (w:World) (ρ:Nat->Role) (pb:Nat) (chain:List Nat) (ms:List NM) (cv:Value):Prop where
 cells:w.heap[pb]?=some (.cells #[cv] 118)
 role:ρ pb=.pars
 own:w.ownsRow 0 54 1 cv chain.length (chain.map (ptrTo ms))
 carole:∀ g,cv.ownBlock=some g->ρ g=.carr
theorem ParserAt.frame {w w':World} {ρ ρ':Nat->Role} {pb:Nat} {chain:List Nat} {ms:List NM} {cv:Value} (h:ParserAt w ρ pb chain ms cv)
  (hf:∀ b,b<w.heap.size->(ρ b=.pars∨ρ b=.carr)->w'.heap[b]?=w.heap[b]?∧ρ' b=ρ b):ParserAt w' ρ' pb chain ms cv:=by
 have hlt:=lt_of_at h.cells
 refine⟨?_,?_,?_,?_⟩
 ·rw [(hf pb hlt (.inl h.role)).1];exact h.cells
 ·rw [(hf pb hlt (.inl h.role)).2];exact h.role
 ·exact ownsRow_frame h.own (fun g hg=>(hf g (h.own.lt g hg).2 (.inr (h.carole g hg))).1)
 ·intro g hg
  rw [(hf g (h.own.lt g hg).2 (.inr (h.carole g hg))).2];exact h.carole g hg
theorem ownsRow_shape {w:World} {base:Nat} {e:TypeId} {v:Value} {n:Nat} {xs:List Value} (h:w.ownsRow base e 1 v n xs) (hn:0<n) :
  ∃ g cap cur,v=.slice (some ⟨g,0,none⟩) n cap∧w.heap[g]?=some (.cells cur e (0,0))∧n≤cap∧cap≤maxLen∧cur.size=cap∧cur.toList.take n=xs:=by
 rcases h.2 with ⟨_,h0⟩|⟨g,cap,cur,rfl,_,hg,h1,h2,h3,h4⟩
 ·omega
 ·exact⟨g,cap,cur,rfl,hg,h1,h2,by omega,by simpa using h4⟩
theorem ownsRow_cell {w:World} {e:TypeId} {g n:Nat} {cur:Array Value} {xs:List Value} (hg:w.heap[g]?=some (.cells cur e (0,0))) (hx:cur.toList.take n=xs) {j:Nat} {v:Value} (hv:xs[j]?=some v):w.cell? ⟨g,j,none⟩=some v:=by
 rw [cell_at hg]
 subst hx
 rw [List.getElem?_take] at hv
 split at hv
 ·rw [<-hv];simp
 ·simp at hv
end Go.Proofs.YtnhidaamfnjdjaaGreatDoor
namespace Go.Proofs.YtnhidaamfnjdjaaGreatDoor
open Go.RowKit
theorem info_of {P:Program} {e:TypeId} {z:Value} {s b:Nat} (h:(P.info? e).map (fun i=>(i.zero,i.size,i.bytes))=some (some z,s,b)) :
  ∃ i,P.info? e=some i∧i.zero=some z∧i.size=s∧i.bytes=b:=by
 cases hi:P.info? e with
 | none=>rw [hi] at h;simp at h
 | some i=>rw [hi] at h;simp at h;exact⟨i,rfl,h.1,h.2.1,h.2.2⟩
theorem run_append1 {P:Program} {t e:TypeId} {z:Value} {bytes:Nat} (ht:P.underlying t=some (.slice e)) (hi:(P.info? e).map (fun i=>(i.zero,i.size,i.bytes))=some (some z,1,bytes)) (hzs:z.cells.size=1) (hby:bytes≤64)
  (w:World) (ty:TypeId) (v:Value) (n:Nat) (xs:List Value) (hown:w.ownsRow 0 e 1 v n xs) (a:Addr) (c:Nat) (x:Value) (hx:w.cell? (a.add 0)=some x) (h1:x.oneCell'=true) (hn:n≤100000) :
  ∃ v' w',(Builtin.append_ #[t,t] ty #[v,.slice (some a) 1 c]).run P w=.ok v' w'∧w'.ownsRow 0 e 1 v' (n+1) (xs++[x])∧w.grownBy w' v.ownBlock∧(v'.ownBlock=v.ownBlock∨∃ g,v'.ownBlock=some g∧w.heap.size≤g):=by
 obtain⟨i,hi1,hz,hsz,hb⟩:=info_of hi
 have hnews:∀ (j:Nat) (u:Value),[x][j]?=some u->w.cell? (a.add j)=some u:=by
  intro j u hu
  cases j with
  | zero=>simp at hu;subst hu;exact hx
  | succ j=>simp at hu
 have hone:∀ u∈[x],u.oneCell'=true:=by intro u hu;simp at hu;subst hu;exact h1
 have hm:n+1≤maxLen:=by unfold maxLen;omega
 have hbb:((n+1)+(n+1) / 4+192) * bytes≤281474976710656:=by
  have h2:((n+1)+(n+1) / 4+192) * bytes≤200000 * 64:=Nat.mul_le_mul (by omega) hby
  omega
 obtain⟨v',w',hr,h2,h3,_⟩:=run_append_own_wide (P:=P) w 0 t ty e i z 1 bytes ht hi1 hz hsz hb hzs (by decide) v n xs hown a 1 c [x] rfl hnews hone hm hbb (Nat.zero_le _)
 refine⟨v',w',hr,h2,h3,?_⟩
 have hs:Src P i.size t (.slice (some a) 1 c) 1 [x] w:=Src.ofSlice w ht a 1 c [x] (by rw [hsz];rfl) hnews hone
 rcases hown.2 with ⟨rfl,rfl⟩|⟨g,cap,cur,rfl,_,hg,hc1,hc2,hc3,hc4⟩
 ·have:=run_append_grow_src (P:=P) w t t ty e i z ht hi1 hz none 0 0 [] (run_firstCells_none w.drew i.size 0 0 0) (.slice (some a) 1 c) 1 [x] hs (by omega) (by omega) (by rw [hb];exact growslice_fits_wide (by omega) (by simpa using hbb))
  rw [hr] at this
  injection this with h4 _
  right
  exact⟨w.heap.size,by rw [h4];rfl,Nat.le_refl _⟩
 ·by_cases hroom:n+1≤cap
  ·have:=run_append_room_src (P:=P) w t t ty e i ht hi1 g 0 n cap (.slice (some a) 1 c) 1 [x] hs hroom (by
    intro j hj
    simp at hj;subst hj
    rw [cell_at hg,hsz]
    have:n<cur.size:=by omega
    simp [this]) (by
    intro j hj
    exact frozen_at hg _)
   rw [hr] at this
   injection this with h4 _
   left;rw [h4];rfl
  ·have hold:(Builtin.firstCells i.size n (.slice (some ⟨g,0,none⟩) n cap)).run P w.drew=.ok xs.toArray w.drew:=by
    refine run_firstCells_some w.drew i.size n ⟨g,0,none⟩ n cap xs (by rw [hsz];have:=hown.1;simpa using this) ?_
    intro j u hu
    have:=ownsRow_cell (n:=n) hg (by simpa using hc4) hu
    have ea:(⟨g,0,none⟩:Addr).add j=⟨g,j,none⟩:=by cases j <;> simp [Addr.add]
    rw [ea]
    exact this
   have:=run_append_grow_src (P:=P) w t t ty e i z ht hi1 hz (some ⟨g,0,none⟩) n cap xs hold (.slice (some a) 1 c) 1 [x] hs (by omega) (by omega) (by rw [hb];exact growslice_fits_wide (by omega) hbb)
   rw [hr] at this
   injection this with h4 _
   right
   exact⟨w.heap.size,by rw [h4];rfl,Nat.le_refl _⟩
theorem wpList_append1 {P:Program} {t e:TypeId} {z:Value} {bytes:Nat} (ht:P.underlying t=some (.slice e)) (hi:(P.info? e).map (fun i=>(i.zero,i.size,i.bytes))=some (some z,1,bytes)) (hzs:z.cells.size=1) (hby:bytes≤64)
  {w:World} {ops:Array Oper} {rest:List Oper} {o:Oper} {a:Act} {Q:Exit->Act->World->Prop} (hgd:o.guard=none) (s x:Operand)
  (ho:o.op=.call { callee:=.builtin .append,args:=#[s,x],argTypes:=#[t,t] })
  (v:Value) (n:Nat) (xs:List Value) (hs:a.eval s=v) (hown:w.ownsRow 0 e 1 v n xs) (ad:Addr) (c:Nat) (y:Value) (hx:a.eval x=.slice (some ad) 1 c) (hy:w.cell? (ad.add 0)=some y) (h1:y.oneCell'=true) (hn:n≤100000)
  (h:∀ v' w',w'.ownsRow 0 e 1 v' (n+1) (xs++[y])->w.grownBy w' v.ownBlock->(v'.ownBlock=v.ownBlock∨∃ g,v'.ownBlock=some g∧w.heap.size≤g)->wpList P ops Q rest (a.put o.dst v') w'):wpList P ops Q (o :: rest) a w:=by
 refine wpList_plain hgd fun K hK=>?_
 obtain⟨v',w',hr,h2,h3,h4⟩:=run_append1 ht hi hzs hby w o.type v n xs hown ad c y hy h1 hn
 unfold Oper.wp execOp
 simp only [ho,resolve,invoke,builtin,Sem.run_bind,Sem.run_pure,Result.andThen_ok,List.map_toArray,List.map_cons,List.map_nil,hs,hx,hr]
 exact hK _ _ (h v' w' h2 h3 h4)
end Go.Proofs.YtnhidaamfnjdjaaGreatDoor
namespace Go.Proofs.YtnhidaamfnjdjaaGreatDoor
open Go.RowKit
theorem at_set_ne {α:Type} (l:List α) (i j:Nat) (x:α) (h:i≠j):(l.set i x)[j]?=l[j]?:=by
 rw [List.getElem?_set];simp [h]
theorem blkOf_put {ms:List NM} {A:Nat} {mA mA' mn:NM} (hA:ms[A]?=some mA) (hb:mA'.blk=mA.blk) {k:Nat} (hk:k<ms.length):blkOf (ms.set A mA'++[mn]) k=blkOf ms k:=by
 have hAl:A<ms.length:=by
  rcases Nat.lt_or_ge A ms.length with h|h
  ·exact h
  ·simp [List.getElem?_eq_none h] at hA
 unfold blkOf
 rw [getD_lt _ _ _ (by simp;omega),getD_lt _ _ _ hk,List.getElem_append_left (by simpa using hk),List.getElem_set]
 split
 ·rename_i h;subst h
  have:ms[A]=mA:=by simpa [hAl] using hA
  rw [this];exact hb
 ·rfl
theorem blkOf_last {ms:List NM} {A:Nat} {mA' mn:NM} {n:Nat} (hn:ms.length=n):blkOf (ms.set A mA'++[mn]) n=mn.blk:=by
 subst hn
 unfold blkOf
 rw [getD_lt _ _ _ (by simp)]
 simp
theorem map_ptr_congr {ms ms':List NM} {l:List Nat} (h:∀ k∈l,blkOf ms' k=blkOf ms k):l.map (ptrTo ms')=l.map (ptrTo ms):=by
 apply List.map_congr_left
 intro k hk
 unfold ptrTo;rw [h k hk]
theorem put_tree {w wf:World} {ρ:Nat->Role} {s:PS} {ms:List NM} (ok:s.Ok) (ht:TreeAt w ρ s.nodes ms) {pb:Nat} {cv:Value} (hp:ParserAt w ρ pb s.chain ms cv)
  {d:Nat} (hd:d<s.chain.length) {mA:NM} (hmA:ms[s.above d]?=some mA) (r:LP) (number:Int) (b mid w1:Nat) (ve:Option Addr) (v' cv':Value)
  (hmid:w.heap.size≤mid) (hmb:mid≤b) (hb1:b<w1) (hz:w1≤wf.heap.size)
  (F1:∀ k,k<w.heap.size->ρ k≠.node (s.above d)->ρ k≠.arr (s.above d)->ρ k≠.pars->ρ k≠.carr->wf.heap[k]?=w.heap[k]?)
  (F2:wf.heap[mA.blk]?=some (.cells (nodeCells (addKid s.nodes.length (s.at (s.above d))) { mA with sl:=v' }) 115))
  (F2e:∀ k,k<w.heap.size->ρ k=.ex (s.above d)->wf.heap[k]?=w.heap[k]?)
  (F3:wf.ownsRow 0 54 1 v' ((s.at (s.above d)).kids.length+1) ((s.at (s.above d)).kids.map (ptrTo ms)++[.pointer (some ⟨b,0,none⟩)]))
  (F3b:v'.ownBlock=mA.sl.ownBlock∨∃ g,v'.ownBlock=some g∧w1≤g)
  (F4:wf.heap[b]?=some (.cells (nodeCells (newNode r number) ⟨b,ve,w.heap.size,mid,.slice none 0 0⟩) 115))
  (F5:RepE wf r.expr w.heap.size mid ve)
  (F6:wf.heap[pb]?=some (.cells #[cv'] 118))
  (F7:wf.ownsRow 0 54 1 cv' (d+2) ((s.chain.take (d+1)).map (ptrTo ms)++[.pointer (some ⟨b,0,none⟩)]))
  (F7b:cv'.ownBlock=cv.ownBlock∨∃ g,cv'.ownBlock=some g∧w1≤g∧v'.ownBlock≠some g)
  (J:Nat->Prop) (hJ:∀ k,J k->k<w.heap.size) (hj:∀ k,J k->ρ k=.junk) :
  ∃ ρ' ms',TreeAt wf ρ' (s.put d r number).nodes ms'∧ParserAt wf ρ' pb (s.put d r number).chain ms' cv'∧(∀ k,J k->ρ' k=.junk)∧∀ k,k<s.nodes.length->blkOf ms' k=blkOf ms k:=by
 have hA:s.above d<s.nodes.length:=ok.above hd
 have hml:=ht.len
 have hnA:s.nodes[s.above d]?=some (s.at (s.above d)):=by unfold PS.at;rw [getD_lt _ _ _ hA];simp [hA]
 have hNA:=ht.at' _ _ _ hnA hmA
 have hlA:=lt_of_at hNA.cells
 have hlp:=lt_of_at hp.cells
 let ρ':Nat->Role:=fun k=>if k<w.heap.size then ρ k else if k<w1 then (if k=b then .node s.nodes.length else if k<mid then .ex s.nodes.length else .junk) else if v'.ownBlock=some k then .arr (s.above d) else if cv'.ownBlock=some k then .carr else .junk
 have ρold:∀ k,k<w.heap.size->ρ' k=ρ k:=fun k hk=>if_pos hk
 have ρb:ρ' b=.node s.nodes.length:=by simp only [ρ'];rw [if_neg (by omega),if_pos hb1];simp
 have ρe:∀ k,w.heap.size≤k->k<mid->ρ' k=.ex s.nodes.length:=by
  intro k h1 h2;simp only [ρ'];rw [if_neg (by omega),if_pos (by omega),if_neg (by omega),if_pos h2]
 have ρv:∀ g,v'.ownBlock=some g->ρ' g=.arr (s.above d):=by
  intro g hg
  rcases F3b with h|⟨g',h,hl⟩
  ·rw [h] at hg
   have:=hNA.own.lt g hg
   rw [ρold g this.2];exact hNA.arrole g hg
  ·rw [h] at hg;injection hg with hg;subst hg
   simp only [ρ'];rw [if_neg (by omega),if_neg (by omega),if_pos h]
 have ρc:∀ g,cv'.ownBlock=some g->ρ' g=.carr:=by
  intro g hg
  rcases F7b with h|⟨g',h,hl,hne⟩
  ·rw [h] at hg
   have:=hp.own.lt g hg
   rw [ρold g this.2];exact hp.carole g hg
  ·rw [h] at hg;injection hg with hg;subst hg
   simp only [ρ'];rw [if_neg (by omega),if_neg (by omega),if_neg hne,if_pos h]
 let ms':List NM:=ms.set (s.above d) { mA with sl:=v' }++[⟨b,ve,w.heap.size,mid,.slice none 0 0⟩]
 have hbl:∀ k,k<s.nodes.length->blkOf ms' k=blkOf ms k:=fun k hk=>blkOf_put (mA':={ mA with sl:=v' }) (mn:=⟨b,ve,w.heap.size,mid,.slice none 0 0⟩) hmA rfl (k:=k) (by omega)
 have hbn:blkOf ms' s.nodes.length=b:=blkOf_last hml
 have hkids:∀ n∈s.nodes,n.kids.map (ptrTo ms')=n.kids.map (ptrTo ms):=fun n hn=>map_ptr_congr (fun k hk=>hbl k (ok.kids n hn k hk))
 have hpn:ptrTo ms' s.nodes.length=.pointer (some ⟨b,0,none⟩):=by unfold ptrTo;rw [hbn]
 have hmemA:s.at (s.above d)∈s.nodes:=by unfold PS.at;rw [getD_lt _ _ _ hA];exact List.getElem_mem hA
 refine⟨ρ',ms',⟨by simp [ms',PS.put,hml],?_⟩,⟨F6,?_,?_,ρc⟩,?_,hbl⟩
 ·intro i n m hn hm
  simp only [PS.put] at hn
  by_cases hi:i<s.nodes.length
  ·rw [List.getElem?_append_left (by simpa using hi)] at hn
   rw [List.getElem?_append_left (by simp;omega)] at hm
   by_cases hiA:i=s.above d
   ·subst hiA
    rw [List.getElem?_set_self hA] at hn
    rw [List.getElem?_set_self (by omega)] at hm
    injection hn with hn;injection hm with hm
    subst hn;subst hm
    refine⟨F2,?_,?_,?_,?_,?_,ρv⟩
    ·show ρ' mA.blk=_
     rw [ρold _ hlA];exact hNA.role
    ·exact hNA.expr.frame (fun k x y=>F2e k (Nat.lt_of_lt_of_le y hNA.exlt) (hNA.exrole k x y))
    ·intro k x y
     rw [ρold k (Nat.lt_of_lt_of_le y hNA.exlt)];exact hNA.exrole k x y
    ·have:=hNA.exlt;show mA.ehi≤_;omega
    ·simp only [addKid,List.length_append,List.length_singleton,List.map_append,List.map_cons,List.map_nil]
     rw [hkids _ hmemA,hpn];exact F3
   ·rw [at_set_ne _ _ _ _ (Ne.symm hiA)] at hn
    rw [at_set_ne _ _ _ _ (Ne.symm hiA)] at hm
    have hN:=ht.at' i n m hn hm
    rw [hkids n (List.mem_of_getElem? hn)]
    refine hN.frame (by omega) ?_
    intro k hk hr
    refine⟨F1 k hk ?_ ?_ ?_ ?_,ρold k hk⟩
    all_goals
     intro e
     rcases hr with hr|hr|hr <;> rw [hr] at e <;> simp at e <;> exact hiA e
  ·have hl:i=s.nodes.length:=by
    have:i<(s.nodes.set (s.above d) (addKid s.nodes.length (s.at (s.above d)))++[newNode r number]).length:=by
     rcases Nat.lt_or_ge i (s.nodes.set (s.above d) (addKid s.nodes.length (s.at (s.above d)))++[newNode r number]).length with h|h
     ·exact h
     ·simp [List.getElem?_eq_none h] at hn
    simp at this;omega
   subst hl
   rw [List.getElem?_append_right (by simp)] at hn
   rw [List.getElem?_append_right (by simp;omega)] at hm
   simp [hml] at hn hm
   subst hn;subst hm
   refine⟨F4,ρb,F5,ρe,?_,?_,?_⟩
   ·show mid≤_;omega
   ·exact World.ownsRow_nil wf 0 _ 1
   ·intro g hg;simp [Value.ownBlock] at hg
 ·rw [ρold _ hlp];exact hp.role
 ·simp only [PS.put,List.length_append,List.length_singleton,List.map_append,List.map_cons,List.map_nil,List.length_take]
  rw [hpn,map_ptr_congr (ms':=ms') (ms:=ms) (fun k hk=>hbl k (ok.chain k (List.mem_of_mem_take hk)))]
  have e1:min (d+1) s.chain.length+1=d+2:=by omega
  rw [e1];exact F7
 ·intro k hk
  rw [ρold k (hJ k hk)];exact hj k hk
end Go.Proofs.YtnhidaamfnjdjaaGreatDoor
namespace Go.Proofs.YtnhidaamfnjdjaaGreatDoor
open Go.RowKit
theorem add_at (g j:Nat):(⟨g,0,none⟩:Addr).add j=⟨g,j,none⟩:=by cases j <;> simp [Addr.add]
theorem run_appendN {P:Program} {t e:TypeId} {z:Value} {size bytes:Nat} (hsz:0<size) (ht:P.underlying t=some (.slice e)) (hi:(P.info? e).map (fun i=>(i.zero,i.size,i.bytes))=some (some z,size,bytes)) (hzs:z.cells.size=size) (hby:bytes≤64)
  (w:World) (ty:TypeId) (v:Value) (n:Nat) (xs:List Value) (hown:w.ownsRow 0 e size v n xs) (a:Addr) (c:Nat) (news:List Value) (hl:news.length=size) (hnews:∀ (j:Nat) (u:Value),news[j]?=some u->w.cell? (a.add j)=some u) (hone:∀ u∈news,u.oneCell'=true) (hn:n≤100000) :
  ∃ v' w',(Builtin.append_ #[t,t] ty #[v,.slice (some a) 1 c]).run P w=.ok v' w'∧w'.ownsRow 0 e size v' (n+1) (xs++news)∧w.grownBy w' v.ownBlock∧(v'.ownBlock=v.ownBlock∨∃ g,v'.ownBlock=some g∧w.heap.size≤g):=by
 obtain⟨i,hi1,hz,hisz,hb⟩:=info_of hi
 have hm:n+1≤maxLen:=by unfold maxLen;omega
 have hbb:((n+1)+(n+1) / 4+192) * bytes≤281474976710656:=by
  have h2:((n+1)+(n+1) / 4+192) * bytes≤200000 * 64:=Nat.mul_le_mul (by omega) hby
  omega
 obtain⟨v',w',hr,h2,h3,_⟩:=run_append_own_wide (P:=P) w 0 t ty e i z size bytes ht hi1 hz hisz hb hzs hsz v n xs hown a 1 c news (by omega) hnews hone hm hbb (Nat.zero_le _)
 refine⟨v',w',hr,h2,h3,?_⟩
 have hs:Src P i.size t (.slice (some a) 1 c) 1 news w:=Src.ofSlice w ht a 1 c news (by rw [hisz];omega) hnews hone
 rcases hown.2 with ⟨rfl,rfl⟩|⟨g,cap,cur,rfl,_,hg,hc1,hc2,hc3,hc4⟩
 ·have:=run_append_grow_src (P:=P) w t t ty e i z ht hi1 hz none 0 0 [] (run_firstCells_none w.drew i.size 0 0 0) (.slice (some a) 1 c) 1 news hs (by omega) (by omega) (by rw [hb];exact growslice_fits_wide (by omega) (by simpa using hbb))
  rw [hr] at this
  injection this with h4 _
  right
  exact⟨w.heap.size,by rw [h4];rfl,Nat.le_refl _⟩
 ·by_cases hroom:n+1≤cap
  ·have hin:(n+1) * size≤cap * size:=Nat.mul_le_mul_right _ hroom
   have:=run_append_room_src (P:=P) w t t ty e i ht hi1 g 0 n cap (.slice (some a) 1 c) 1 news hs hroom (by
    intro j hj
    rw [cell_at hg,hisz]
    have:0+n * size+j<cur.size:=by rw [hc3];rw [Nat.add_mul] at hin;omega
    rw [Array.getElem?_eq_getElem this];rfl) (by
    intro j hj
    exact frozen_at hg _)
   rw [hr] at this
   injection this with h4 _
   left;rw [h4];rfl
  ·have hold:(Builtin.firstCells i.size n (.slice (some ⟨g,0,none⟩) n cap)).run P w.drew=.ok xs.toArray w.drew:=by
    refine run_firstCells_some w.drew i.size n ⟨g,0,none⟩ n cap xs (by rw [hisz];exact hown.1) ?_
    intro j u hu
    have:=ownsRow_cell (n:=n * size) hg hc4 hu
    rw [add_at]
    exact this
   have:=run_append_grow_src (P:=P) w t t ty e i z ht hi1 hz (some ⟨g,0,none⟩) n cap xs hold (.slice (some a) 1 c) 1 news hs (by omega) (by omega) (by rw [hb];exact growslice_fits_wide (by omega) hbb)
   rw [hr] at this
   injection this with h4 _
   right
   exact⟨w.heap.size,by rw [h4];rfl,Nat.le_refl _⟩
end Go.Proofs.YtnhidaamfnjdjaaGreatDoor
namespace Go.Proofs.YtnhidaamfnjdjaaGreatDoor
open Go.RowKit
theorem run_appendM {P:Program} {t e:TypeId} {z:Value} {size bytes:Nat} (hsz:0<size) (ht:P.underlying t=some (.slice e)) (hi:(P.info? e).map (fun i=>(i.zero,i.size,i.bytes))=some (some z,size,bytes)) (hzs:z.cells.size=size) (hby:bytes≤128)
  (w:World) (ty:TypeId) (v:Value) (n:Nat) (xs:List Value) (hown:w.ownsRow 0 e size v n xs) (a:Addr) (m c:Nat) (news:List Value) (hl:news.length=m * size) (hnews:∀ (j:Nat) (u:Value),news[j]?=some u->w.cell? (a.add j)=some u) (hone:∀ u∈news,u.oneCell'=true) (hn:n+m≤1000000) :
  ∃ v' w',(Builtin.append_ #[t,t] ty #[v,.slice (some a) m c]).run P w=.ok v' w'∧w'.ownsRow 0 e size v' (n+m) (xs++news)∧w.grownBy w' v.ownBlock∧(v'.ownBlock=v.ownBlock∨∃ g,v'.ownBlock=some g∧w.heap.size≤g):=by
 obtain⟨i,hi1,hz,hisz,hb⟩:=info_of hi
 have hm:n+m≤maxLen:=by unfold maxLen;omega
 have hbb:((n+m)+(n+m) / 4+192) * bytes≤281474976710656:=by
  have h2:((n+m)+(n+m) / 4+192) * bytes≤2000000 * 128:=Nat.mul_le_mul (by omega) hby
  omega
 obtain⟨v',w',hr,h2,h3,hiff⟩:=run_append_own_wide (P:=P) w 0 t ty e i z size bytes ht hi1 hz hisz hb hzs hsz v n xs hown a m c news hl hnews hone hm hbb (Nat.zero_le _)
 refine⟨v',w',hr,h2,h3,?_⟩
 have hs:Src P i.size t (.slice (some a) m c) m news w:=Src.ofSlice w ht a m c news (by rw [hisz];exact hl) hnews hone
 rcases hown.2 with ⟨rfl,rfl⟩|⟨g,cap,cur,rfl,_,hg,hc1,hc2,hc3,hc4⟩
 ·by_cases hm0:m=0
  ·left
   rw [hiff.2 ⟨rfl,hm0⟩]
  ·have:=run_append_grow_src (P:=P) w t t ty e i z ht hi1 hz none 0 0 [] (run_firstCells_none w.drew i.size 0 0 0) (.slice (some a) m c) m news hs (by omega) (by omega) (by rw [hb];exact growslice_fits_wide (by omega) hbb)
   rw [hr] at this
   injection this with h4 _
   right
   exact⟨w.heap.size,by rw [h4];rfl,Nat.le_refl _⟩
 ·by_cases hroom:n+m≤cap
  ·have hin:(n+m) * size≤cap * size:=Nat.mul_le_mul_right _ hroom
   have:=run_append_room_src (P:=P) w t t ty e i ht hi1 g 0 n cap (.slice (some a) m c) m news hs hroom (by
    intro j hj
    rw [cell_at hg,hisz]
    have:0+n * size+j<cur.size:=by rw [hc3];rw [Nat.add_mul] at hin;rw [hl] at hj;omega
    rw [Array.getElem?_eq_getElem this];rfl) (by
    intro j hj
    exact frozen_at hg _)
   rw [hr] at this
   injection this with h4 _
   left;rw [h4];rfl
  ·have hold:(Builtin.firstCells i.size n (.slice (some ⟨g,0,none⟩) n cap)).run P w.drew=.ok xs.toArray w.drew:=by
    refine run_firstCells_some w.drew i.size n ⟨g,0,none⟩ n cap xs (by rw [hisz];exact hown.1) ?_
    intro j u hu
    have:=ownsRow_cell (n:=n * size) hg hc4 hu
    rw [add_at]
    exact this
   have:=run_append_grow_src (P:=P) w t t ty e i z ht hi1 hz (some ⟨g,0,none⟩) n cap xs hold (.slice (some a) m c) m news hs (by omega) (by omega) (by rw [hb];exact growslice_fits_wide (by omega) hbb)
   rw [hr] at this
   injection this with h4 _
   right
   exact⟨w.heap.size,by rw [h4];rfl,Nat.le_refl _⟩
theorem wpList_appendM {P:Program} {t e:TypeId} {z:Value} {size bytes:Nat} (hsz:0<size) (ht:P.underlying t=some (.slice e)) (hi:(P.info? e).map (fun i=>(i.zero,i.size,i.bytes))=some (some z,size,bytes)) (hzs:z.cells.size=size) (hby:bytes≤128)
  {w:World} {ops:Array Oper} {rest:List Oper} {o:Oper} {a:Act} {Q:Exit->Act->World->Prop} (hgd:o.guard=none) (s x:Operand)
  (ho:o.op=.call { callee:=.builtin .append,args:=#[s,x],argTypes:=#[t,t] })
  (v:Value) (n:Nat) (xs:List Value) (hs:a.eval s=v) (hown:w.ownsRow 0 e size v n xs) (ad:Addr) (m c:Nat) (news:List Value) (hx:a.eval x=.slice (some ad) m c) (hl:news.length=m * size) (hnews:∀ (j:Nat) (u:Value),news[j]?=some u->w.cell? (ad.add j)=some u) (hone:∀ u∈news,u.oneCell'=true) (hn:n+m≤1000000)
  (h:∀ v' w',w'.ownsRow 0 e size v' (n+m) (xs++news)->w.grownBy w' v.ownBlock->(v'.ownBlock=v.ownBlock∨∃ g,v'.ownBlock=some g∧w.heap.size≤g)->wpList P ops Q rest (a.put o.dst v') w'):wpList P ops Q (o :: rest) a w:=by
 refine wpList_plain hgd fun K hK=>?_
 obtain⟨v',w',hr,h2,h3,h4⟩:=run_appendM hsz ht hi hzs hby w o.type v n xs hown ad m c news hl hnews hone hn
 unfold Oper.wp execOp
 simp only [ho,resolve,invoke,builtin,Sem.run_bind,Sem.run_pure,Result.andThen_ok,List.map_toArray,List.map_cons,List.map_nil,hs,hx,hr]
 exact hK _ _ (h v' w' h2 h3 h4)
theorem step_appendM {P:Program} {t e:TypeId} {z:Value} {size bytes:Nat} (hsz:0<size) (ht:P.underlying t=some (.slice e)) (hi:(P.info? e).map (fun i=>(i.zero,i.size,i.bytes))=some (some z,size,bytes)) (hzs:z.cells.size=size) (hby:bytes≤128)
  {ops:Array Oper} {o:Oper} {a:Act} {w:World} {K:Act->World->Prop} {Q:Exit->Act->World->Prop} {E:Prop}
  (hg:o.guard=none) (s x:Operand) (hop:o.op=Op.call { callee:=Callee.builtin Builtin.append,args:=#[s,x],argTypes:=#[t,t] })
  (v:Value) (n:Nat) (xs:List Value) (hs:a.eval s=v) (hown:w.ownsRow 0 e size v n xs) (ad:Addr) (m c:Nat) (news:List Value) (hx:a.eval x=.slice (some ad) m c) (hl:news.length=m * size) (hnews:∀ (j:Nat) (u:Value),news[j]?=some u->w.cell? (ad.add j)=some u) (hone:∀ u∈news,u.oneCell'=true) (hn:n+m≤1000000)
  (hK:∀ v' w',w'.ownsRow 0 e size v' (n+m) (xs++news)->w.grownBy w' v.ownBlock->(v'.ownBlock=v.ownBlock∨∃ g,v'.ownBlock=some g∧w.heap.size≤g)->K (a.put o.dst v') w') :
  if Region.wanted o (yielded ops a.tmps)=true then Oper.wp P o a w K Q else E:=by
 have hw:Region.wanted o (yielded ops a.tmps)=true:=by simp [Region.wanted,hg]
 rw [if_pos hw]
 obtain⟨v',w',hr,h2,h3,h4⟩:=run_appendM hsz ht hi hzs hby w o.type v n xs hown ad m c news hl hnews hone hn
 unfold Oper.wp
 simp [execOp,hop,resolve,invoke,builtin,hs,hx,hr,Result.andThen]
 exact hK v' w' h2 h3 h4
theorem wpList_append0 {P:Program} {t e:TypeId} {z:Value} {size bytes:Nat} (ht:P.underlying t=some (.slice e)) (hi:(P.info? e).map (fun i=>(i.zero,i.size,i.bytes))=some (some z,size,bytes))
  {w:World} {ops:Array Oper} {rest:List Oper} {o:Oper} {a:Act} {Q:Exit->Act->World->Prop} (hgd:o.guard=none) (s x:Operand)
  (ho:o.op=.call { callee:=.builtin .append,args:=#[s,x],argTypes:=#[t,t] })
  (v:Value) (n:Nat) (xs:List Value) (hs:a.eval s=v) (hown:w.ownsRow 0 e size v n xs) (hx:a.eval x=.slice none 0 0)
  (h:wpList P ops Q rest (a.put o.dst v) w):wpList P ops Q (o :: rest) a w:=by
 obtain⟨i,hi1,hz,hisz,hb⟩:=info_of hi
 refine wpList_plain hgd fun K hK=>?_
 have hr:=run_append_owned_none (P:=P) w 0 t o.type e i size ht hi1 v n xs hown
 unfold Oper.wp execOp
 simp only [ho,resolve,invoke,builtin,Sem.run_bind,Sem.run_pure,Result.andThen_ok,List.map_toArray,List.map_cons,List.map_nil,hs,hx,hr]
 exact hK _ _ h
end Go.Proofs.YtnhidaamfnjdjaaGreatDoor
