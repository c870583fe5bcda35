import Derived.Test.YtnhidaamfnjdjaaGreatDoorZMacZ
import Derived.Test.YtnhidaamfnjdjaaGreatDoorZMakL
import Derived.Laws.MakeOwn
import Derived.Laws.OwnMore
import Derived.Test.YtnhidaamfnjdjaaGreatDoorZShaF
import Derived.Test.YtnhidaamfnjdjaaGreatDoorZTxA
namespace Go.Proofs.YtnhidaamfnjdjaaGreatDoor
open Go.RowKit Go.Maps
theorem toList_made3 (a b c:Value) (n:Nat):(madeCells #[a,b,c] (n * 3)).toList=(List.replicate n [a,b,c]).flatten:=by
 apply List.ext_getElem?
 intro j
 have hlen:(List.replicate n [a,b,c]).flatten.length=n * 3:=by simp
 by_cases hj:j<n * 3
 ·have h1:(madeCells #[a,b,c] (n * 3)).toList[j]?=some (#[a,b,c][j % 3]!):=by simp [madeCells,hj]
  rw [h1]
  have key:∀ (n j:Nat),j<n * 3->(List.replicate n [a,b,c]).flatten[j]?=some (#[a,b,c][j % 3]!):=by
   intro n
   induction n with
   | zero=>intro j hj;omega
   | succ n ih =>
    intro j hj
    rw [List.replicate_succ,List.flatten_cons]
    by_cases h3:j<3
    ·rw [List.getElem?_append_left (by simpa using h3)]
     have cases:j=0∨j=1∨j=2:=by omega
     rcases cases with rfl|rfl|rfl <;> rfl
    ·rw [List.getElem?_append_right (by simp;omega)]
     have:=ih (j - 3) (by omega)
     have e:(j - 3) % 3=j % 3:=by omega
     rw [e] at this
     simpa using this
  rw [key n j hj]
 ·rw [List.getElem?_eq_none (by simp [madeCells];omega),List.getElem?_eq_none (by rw [hlen];omega)]
def nilS:Value:=.slice none 0 0
def newV (vc vb:Value) (n bv bc pb:Nat):MV:=⟨vc,vb,.slice (some ⟨bv,0,none⟩) n n,.slice (some ⟨bc,0,none⟩) n n,nilS,nilS,nilS,nilS,nilS,[pb],[nilS],List.replicate n nilS⟩
def newMR (vc vb:Value) (bv bc mb pb:Nat):Nat->MR:=fun g=>if g=mb then .mach else if g=pb then .proc 0 else if g=bv then .vars else if g=bc then .chans else if vc.ownBlock=some g then .code else if vb.ownBlock=some g then .br else .junk
theorem chans_new (vc vb:Value) (n bv bc pb:Nat):∀ (m k:Nat),((List.replicate m (default:PCh)).mapIdx fun c x=>(newV vc vb n bv bc pb).chan (c+k) x)=if k+m≤n then List.replicate m [nilS,.pointer none,.pointer none] else ((List.replicate m (default:PCh)).mapIdx fun c x=>(newV vc vb n bv bc pb).chan (c+k) x)
 | 0,k=>by simp
 | m+1,k=>by
  split
  ·rename_i h
   rw [List.replicate_succ,List.mapIdx_cons,List.replicate_succ]
   congr 1
   ·unfold MV.chan newV
    simp only [Nat.zero_add]
    rw [List.getD,List.getElem?_replicate,if_pos (by omega)]
    rfl
   ·have:=chans_new vc vb n bv bc pb m (k+1)
    rw [if_pos (by omega)] at this
    rw [<-this]
    congr 1
    funext c x
    congr 1
    omega
  ·rfl
theorem chans_start (vc vb:Value) (n bv bc pb:Nat):(newV vc vb n bv bc pb).chans (List.replicate n default)=(List.replicate n [nilS,.pointer none,.pointer none]).flatten:=by
 unfold MV.chans
 have:=chans_new vc vb n bv bc pb n 0
 rw [if_pos (by omega)] at this
 simp only [Nat.add_zero] at this
 rw [this]
theorem new_at {C:CM} {w w':World} {z n:Nat} {vc vb:Value} {bv bc mb pb:Nat} (pg:PgAt z w C vc vb) (hroom:C.room=n) (hn:n≤1000000) (hb:Below w.heap.size w w')
  (e1:w'.heap[bv]?=some (.cells (madeCells #[.int .i64 0] n) 3)) (e2:w'.heap[bc]?=some (.cells (madeCells #[nilS,.pointer none,.pointer none] (n * 3)) 163))
  (e3:w'.heap[mb]?=some (.cells ((newV vc vb n bv bc pb).mach (newF C)) 102)) (e4:w'.heap[pb]?=some (.cells ((newV vc vb n bv bc pb).proc mb 0 default) 108))
  (l1:w.heap.size≤bv) (l2:w.heap.size≤bc) (l3:w.heap.size≤mb) (l4:w.heap.size≤pb) (ne:bv≠bc∧bv≠mb∧bv≠pb∧bc≠mb∧bc≠pb∧mb≠pb) :
  MsAt w' mb (newMR vc vb bv bc mb pb) C (newV vc vb n bv bc pb) (newF C)∧∀ g,g<w.heap.size->vc.ownBlock≠some g->vb.ownBlock≠some g->newMR vc vb bv bc mb pb g=.junk:=by
 obtain⟨n1,n2,n3,n4,n5,n6⟩:=ne
 have hrn:C.room.toNat=n:=by rw [hroom];rfl
 have oc:∀ g,vc.ownBlock=some g->g<w.heap.size:=fun g hg=>own_lt pg.code hg
 have ob:∀ g,vb.ownBlock=some g->g<w.heap.size:=fun g hg=>own_lt pg.br hg
 have no:∀ r g,nilS.ownBlock=some g->newMR vc vb bv bc mb pb g=r:=fun r g h=>by simp [nilS,Value.ownBlock] at h
 refine⟨⟨fun _=>e3,⟨?_,lt_of_at e3⟩,fun _=>⟨?_,?_⟩,fun _=>⟨?_,?_⟩,fun _=>⟨?_,?_⟩,fun _=>⟨?_,?_⟩,fun _=>⟨QAt.nil _ _,no _⟩,fun _=>⟨QAt.nil _ _,no _⟩,fun _=>⟨QAt.nil _ _,no _⟩,fun _=>⟨World.ownsRow_nil _ _ _ _,no _⟩,fun _=>⟨QAt.nil _ _,no _⟩,?_,?_,?_,?_⟩,?_⟩
 ·simp [newMR]
 ·exact ownsRow_frame pg.code (fun g hg=>hb.block g (oc g hg))
 ·intro g hg
  have hg:vc.ownBlock=some g:=hg
  have:=oc g hg
  unfold newMR
  rw [if_neg (by omega),if_neg (by omega),if_neg (by omega),if_neg (by omega),if_pos hg]
 ·exact ownsRow_frame pg.br (fun g hg=>hb.block g (ob g hg))
 ·intro g hg
  have hg:vb.ownBlock=some g:=hg
  have:=ob g hg
  unfold newMR
  rw [if_neg (by omega),if_neg (by omega),if_neg (by omega),if_neg (by omega),if_neg (fun h=>pg.cbr g h hg),if_pos hg]
 ·show QAt w' _ (.slice (some ⟨bv,0,none⟩) n n) ((List.replicate C.room.toNat (0:Int)).map intV)
  rw [hrn,List.map_replicate]
  refine .inr ⟨bv,0,n,_,by rw [List.length_replicate],e1,by rw [List.length_replicate];exact Nat.le_refl _,by unfold maxLen;omega,by rw [size_madeCells];omega,?_⟩
  rw [toList_madeCells_one,List.drop_zero,List.length_replicate,List.take_of_length_le (by simp)]
  rfl
 ·intro g hg
  have hg:bv=g:=by simpa [newV,Value.ownBlock] using hg
  subst hg
  unfold newMR
  rw [if_neg n2,if_neg n3,if_pos rfl]
 ·show w'.ownsRow 0 _ 3 (.slice (some ⟨bc,0,none⟩) n n) (List.replicate C.room.toNat (default:PCh)).length ((newV vc vb n bv bc pb).chans (List.replicate C.room.toNat default))
  rw [hrn,chans_start,List.length_replicate]
  refine⟨by simp,.inr ⟨bc,n,_,rfl,Nat.zero_le _,e2,Nat.le_refl _,by unfold maxLen;omega,by rw [size_madeCells],?_⟩⟩
  rw [toList_made3,List.take_of_length_le (by simp)]
 ·intro g hg
  have hg:bc=g:=by simpa [newV,Value.ownBlock] using hg
  subst hg
  unfold newMR
  rw [if_neg n4,if_neg n5,if_neg (fun h=>n1 h.symm),if_pos rfl]
 ·intro i p hp _
  cases i with
  | zero =>
   have hp:some (default:PPr)=some p:=hp
   injection hp with hp
   subst hp
   exact⟨e4,by show newMR vc vb bv bc mb pb pb=_;unfold newMR;rw [if_neg (fun h=>n6 h.symm),if_pos rfl]⟩
  | succ i=>cases hp
 ·intro i p hp _
  cases i with
  | zero =>
   have hp:some (default:PPr)=some p:=hp
   injection hp with hp
   subst hp
   exact⟨World.ownsRow_nil _ _ _ _,no _⟩
  | succ i=>cases hp
 ·intro c x hx _
  have hx:(List.replicate C.room.toNat (default:PCh))[c]?=some x:=hx
  have hc:c<n:=by
   have:=(List.getElem?_eq_some_iff.1 hx).1
   rw [List.length_replicate,hrn] at this
   exact this
  rw [List.getElem?_replicate,hrn,if_pos hc] at hx
  injection hx with hx
  subst hx
  have e:(newV vc vb n bv bc pb).nv.getD c (.slice none 0 0)=nilS:=by
   show (List.replicate n nilS).getD c _=_
   rw [List.getD,List.getElem?_replicate,if_pos hc]
   rfl
  rw [e]
  exact⟨QAt.nil _ _,no _⟩
 ·refine⟨rfl,rfl,?_⟩
  show (List.replicate n nilS).length=(List.replicate C.room.toNat (default:PCh)).length
  rw [List.length_replicate,List.length_replicate,hrn]
 ·intro g hg h1 h2
  unfold newMR
  rw [if_neg (by omega),if_neg (by omega),if_neg (by omega),if_neg (by omega),if_neg h1,if_neg h2]
theorem new_heap (w:World) (O0 O1 O2 O3 O4:Obj):∀ w',w'=(((((w.alloc O0).alloc O1).alloc O2).alloc O3).alloc O4).drew ->
  w'.heap[w.heap.size+1]?=some O1∧w'.heap[w.heap.size+1+1]?=some O2∧w'.heap[w.heap.size+1+1+1]?=some O3∧w'.heap[w.heap.size+1+1+1+1]?=some O4∧Below w.heap.size w w':=by
 intro w' hw
 have hz1:(w.alloc O0).heap.size=w.heap.size+1:=by simp
 have hz2:((w.alloc O0).alloc O1).heap.size=w.heap.size+1+1:=by simp
 have hz3:(((w.alloc O0).alloc O1).alloc O2).heap.size=w.heap.size+1+1+1:=by simp
 have hz4:((((w.alloc O0).alloc O1).alloc O2).alloc O3).heap.size=w.heap.size+1+1+1+1:=by simp
 have a1:=at_new (w.alloc O0) O1
 have a2:=at_new ((w.alloc O0).alloc O1) O2
 have a3:=at_new (((w.alloc O0).alloc O1).alloc O2) O3
 have a4:=at_new ((((w.alloc O0).alloc O1).alloc O2).alloc O3) O4
 rw [hz1] at a1
 rw [hz2] at a2
 rw [hz3] at a3
 rw [hz4] at a4
 subst hw
 refine⟨at_alloc (at_alloc (at_alloc a1 O2) O3) O4,at_alloc (at_alloc a2 O3) O4,at_alloc a3 O4,a4,?_⟩
 exact ((((((Below.refl _ _).alloc (Nat.le_refl _) _).alloc (by simp) _).alloc (by simp;omega) _).alloc (by simp;omega) _).alloc (by rw [hz4];omega) _).drew
set_option maxRecDepth 20000 in
set_option maxHeartbeats 4000000 in
theorem mNew_any {C:CM} {z n:Nat} {ca ba:Option Addr} {cc bc:Nat} (w:World) (pg:PgAt z w C (.slice ca C.code.length cc) (.slice ba C.br.length bc)) (hroom:C.room=n) (hn:n≤1000000) :
  Calls Tryz.prog 54 #[.agg #[.slice ca C.code.length cc,.slice ba C.br.length bc,.int .i64 n]] w fun e w'=>∃ mb ρ V,e=.returned (.pointer (some ⟨mb,0,none⟩))∧MsAt w' mb ρ C V (newF C)∧Below w.heap.size w w'∧w.heap.size≤mb∧∀ g,g<w.heap.size->(Value.slice ca C.code.length cc).ownBlock≠some g->(Value.slice ba C.br.length bc).ownBlock≠some g->ρ g=.junk:=by
 have mk1:∀ W:World,(Instr.makeSlice 36 (.int .i64 (n:Int)) (.int .i64 (n:Int))).run Tryz.prog W=.ok (.slice (some ⟨W.heap.size,0,none⟩) n n) (W.alloc (.cells (madeCells #[.int .i64 0] n) 3)):=by
  intro W
  have hi:(Tryz.prog.info? 3).map (fun i=>(i.zero,i.size,i.bytes))=some (some (.int .i64 0),1,8):=by kernel_rfl
  obtain⟨i,hi1,hz,hisz,hb⟩:=info_of hi
  have:=run_make (P:=Tryz.prog) W 36 3 i (.int .i64 0) Tryz.underlying36 hi1 hz .i64 .i64 n n (by omega) (by omega) (by rw [hb];omega) (by omega)
  rw [hisz,Int.toNat_natCast,Nat.mul_one] at this
  exact this
 have mk2:∀ W:World,(Instr.makeSlice 95 (.int .i64 (n:Int)) (.int .i64 (n:Int))).run Tryz.prog W=.ok (.slice (some ⟨W.heap.size,0,none⟩) n n) (W.alloc (.cells (madeCells #[nilS,.pointer none,.pointer none] (n * 3)) 163)):=by
  intro W
  have hi:(Tryz.prog.info? 163).map (fun i=>(i.zero,i.size,i.bytes))=some (some (.agg #[nilS,.pointer none,.pointer none]),3,40):=by kernel_rfl
  have hi':∃ i,Tryz.prog.info? 163=some i∧i.zero=some (.agg #[nilS,.pointer none,.pointer none])∧i.size=3∧i.bytes=40:=by
   cases hq:Tryz.prog.info? 163 with
   | none=>rw [hq] at hi;cases hi
   | some i=>rw [hq] at hi;simp at hi;exact⟨i,rfl,hi.1,hi.2.1,hi.2.2⟩
  obtain⟨i,hi1,hz,hisz,hb⟩:=hi'
  have:=run_make (P:=Tryz.prog) W 95 163 i _ Tryz.underlying95 hi1 hz .i64 .i64 n n (by omega) (by omega) (by rw [hb];omega) (by omega)
  rw [hisz,Int.toNat_natCast] at this
  exact this
 have Pg:=hide pg
 have Hr:=hide hroom
 clear pg hroom
 go_enter Tryz.func54,Tryz.ntmps54
 go_wp2_with fail
 go_region_held3 (fun w'=>w'.cell? ⟨w.heap.size,0,none⟩=some (.slice ca C.code.length cc)∧w'.cell? ⟨w.heap.size,1,none⟩=some (.slice ba C.br.length bc)∧w'.cell? ⟨w.heap.size,2,none⟩=some (.int .i64 n)) (go_keep) (fail)
 ·go_wp2_with fail
  go_ret
  obtain⟨h1,h2,h3,h4,h5⟩:=new_heap w (.cells #[.slice ca C.code.length cc,.slice ba C.br.length bc,.int .i64 n] 89) (.cells (madeCells #[.int .i64 0] n) 3) (.cells (madeCells #[nilS,.pointer none,.pointer none] (n * 3)) 163) (.cells #[.slice ca C.code.length cc,.slice ba C.br.length bc,.slice (some ⟨w.heap.size+1,0,none⟩) n n,.slice (some ⟨w.heap.size+1+1,0,none⟩) n n,.slice none 0 0,.pointer (some ⟨w.heap.size+1+1+1+1,0,none⟩),.slice none 0 0,.slice none 0 0,.slice none 0 0,.int .i64 0,.int .i64 0,.slice none 0 0,.bool false,.bool false] 102) (.cells #[.pointer (some ⟨w.heap.size+1+1+1,0,none⟩),.pointer none,.bool false,.int .i64 0,.slice none 0 0,.int .i64 0,.nilFunc] 108) _ rfl
  obtain⟨k1,k2⟩:=new_at (bv:=w.heap.size+1) (bc:=w.heap.size+1+1) (mb:=w.heap.size+1+1+1) (pb:=w.heap.size+1+1+1+1) Pg.out Hr.out hn h5 h1 h2 h3 h4 (by omega) (by omega) (by omega) (by omega) ⟨by omega,by omega,by omega,by omega,by omega,by omega⟩
  exact⟨_,_,_,rfl,k1,h5,by omega,k2⟩
 ·go_wp2_with fail
  go_ret
  obtain⟨h1,h2,h3,h4,h5⟩:=new_heap w (.cells #[.slice ca C.code.length cc,.slice ba C.br.length bc,.int .i64 n] 89) (.cells (madeCells #[nilS,.pointer none,.pointer none] (n * 3)) 163) (.cells (madeCells #[.int .i64 0] n) 3) (.cells #[.slice ca C.code.length cc,.slice ba C.br.length bc,.slice (some ⟨w.heap.size+1+1,0,none⟩) n n,.slice (some ⟨w.heap.size+1,0,none⟩) n n,.slice none 0 0,.pointer (some ⟨w.heap.size+1+1+1+1,0,none⟩),.slice none 0 0,.slice none 0 0,.slice none 0 0,.int .i64 0,.int .i64 0,.slice none 0 0,.bool false,.bool false] 102) (.cells #[.pointer (some ⟨w.heap.size+1+1+1,0,none⟩),.pointer none,.bool false,.int .i64 0,.slice none 0 0,.int .i64 0,.nilFunc] 108) _ rfl
  obtain⟨k1,k2⟩:=new_at (bv:=w.heap.size+1+1) (bc:=w.heap.size+1) (mb:=w.heap.size+1+1+1) (pb:=w.heap.size+1+1+1+1) Pg.out Hr.out hn h5 h2 h1 h3 h4 (by omega) (by omega) (by omega) (by omega) ⟨by omega,by omega,by omega,by omega,by omega,by omega⟩
  exact⟨_,_,_,rfl,k1,h5,by omega,k2⟩
end Go.Proofs.YtnhidaamfnjdjaaGreatDoor
namespace Go.Proofs.YtnhidaamfnjdjaaGreatDoor
open Go.RowKit Go.Maps
theorem TreeAt.tr {w:World} {ρ:Nat->Role} {T:List PNode} {ms:List NM} (h:TreeAt w ρ T ms):TrAt w w.heap.size T ms:=by
 have get:∀ i,i<T.length->NodeAt w ρ ((T.getD i default).kids.map (ptrTo ms)) i (T.getD i default) (ms.getD i default)∧blkOf ms i=(ms.getD i default).blk:=by
  intro i hi
  obtain⟨m,hm,hn,hb⟩:=h.get hi
  have e:ms.getD i default=m:=by rw [List.getD,hm];rfl
  rw [e]
  exact⟨hn,hb⟩
 refine⟨fun i hi=>?_,fun i hi=>(get i hi).1.own,fun i hi g hg=>((get i hi).1.own.lt g hg).2⟩
 obtain⟨hn,hb⟩:=get i hi
 rw [hb]
 exact⟨hn.cells,hn.expr,hn.exlt,lt_of_at hn.cells⟩
theorem kids_few {T:List PNode} {r n:Nat} {E:Nat->Nat} (ok:TextOk T r n E) (i:Nat) (hi:i<T.length):(T.getD i default).kids.length≤802:=by
 have h1:=wsum_row (ok.row i hi)
 have h2:=ok.top i hi
 have h3:=ok.few
 have kidn:∀ (l:List Nat),(∀ k∈l,k<E k)->l.length≤wsum E l:=by
  intro l
  induction l with
  | nil=>intro _;simp
  | cons k l ih =>
   intro h
   have:=ih (fun x hx=>h x (by simp [hx]))
   have:=h k (by simp)
   show l.length+1≤E k - k+wsum E l
   omega
 have:=kidn _ (fun k hk=>((ok.row i hi).mem k hk).2.1)
 omega
theorem TextOk.tok {T:List PNode} {r n:Nat} {E:Nat->Nat} (ok:TextOk T r n E):TOk T where
 kids:=fun i hi=>⟨fun k hk=>ok.wf.up i k hk,by have:=kids_few ok i hi;omega⟩
 nd:=fun i hi=>by have:=(ok.inr i).nd;have:=ok.n2;omega
 asks:=ok.wf.asks
 whens:=fun i hi hk k hkk=>(ok.wf.whens i hi hk k hkk).2
 ons:=fun i hi hk k hkk=>(ok.wf.ons i hi hk k hkk).2
 line:=ok.wf.line
 size:=fun i hi=>by have:=ok.size i;omega
set_option maxHeartbeats 2000000 in
theorem sread_ok (text:Bs) (w:World) (hs:text.length≤9223372036854775807) (m:Int) (hm:w.cell? ⟨0,0,none⟩=some (.int .i64 m)) (s:PS) (hp:(parseF text (linesF text)).1=some s) (hck:checkF text=(0,0)) :
  Calls Tryz.prog 30 #[.string ⟨text.toArray⟩] w fun e w'=>∃ ρ ms,e=.returned (.tuple #[ptrTo ms (rootOf s),.int .i64 0,.int .i64 0])∧TreeAt w' ρ (namedF s).2 ms∧Below w.heap.size w w':=by
 have hg:=Good_any text
 have ht:=text_any text w hs m hm
 unfold TextPost at ht
 have hgd:=hg s hp
 have hP:=parseF_some text (linesF text) s hp
 unfold checkF at hck
 rw [hP] at ht hck
 simp only at hck
 have hl1:(namedF s).1.line=0:=by
  by_cases h:(namedF s).1.line=0
  ·exact h
  ·rw [if_pos h] at hck
   injection hck with h1 _
 rw [if_neg (by rw [hl1];decide)] at hck
 have hl2:(shareF (namedF s).2 (namedF s).2.length 0 (rootOf s)).2=0:=by
  by_cases h:(shareF (namedF s).2 (namedF s).2.length 0 (rootOf s)).2=0
  ·exact h
  ·rw [if_pos h] at hck
   injection hck with h1 _
 have hsh:=nameF_keep s.nodes.length (startR,s.nodes) (rootOf s)
 have Ht:=hide ht;have Hgd:=hide hgd;have Hsh:=hide hsh.1;have Hl1:=hide hl1;have Hl2:=hide hl2
 clear ht hg hP hp hgd hsh hck hl1 hl2
 go_enter Tryz.func30,Tryz.ntmps30
 go_wp2_with fail
 refine Ht.out.mono ?_
 rintro x w1 ⟨v,rfl,b1,h1⟩
 obtain⟨ρ,ms,t1,j1,rfl⟩:=h1 s rfl
 obtain⟨mr,hmr,_,hbr⟩:=t1.get Hgd.out.root
 have hN:=Names_any w1 ρ s.nodes ms (rootOf s) mr t1 Hgd.out.root hmr Hgd.out.up Hgd.out.few
 rw [<-hbr] at hN
 have HN:=hide hN;have B1:=hide b1;have J1:=hide j1;have Hmr:=hide hmr;have Hbr:=hide hbr
 clear hN b1 j1 t1 h1 hmr hbr
 go_wp2_with fail
 refine HN.out.mono ?_
 rintro x w2 ⟨rfl,t2,j2⟩
 have hS:=Share_any w2 ρ (namedF s).2 ms (rootOf s) mr t2 (by have:=Hsh.out.len;unfold namedF;rw [this];exact Hgd.out.root) Hmr.out (Hgd.out.up.shape Hsh.out) Hgd.out.uses (fun i=>by
  have:=Hsh.out.kids i
  unfold namedF;rw [this];have:=Hgd.out.kids i;omega)
 rw [<-Hbr.out] at hS
 have B2:=hide (below_of B1.out j2 J1.out)
 have HS:=hide hS
 have T2:=hide t2
 clear hS t2 j2
 have e1:nameF s.nodes.length (startR,s.nodes) (rootOf s)=namedF s:=rfl
 rw [e1]
 rw [Hl1.out]
 clear e1
 rw [Hl2.out] at HS
 go_wp2_with (go_at_call 44;refine HS.out.mono ?_;rintro x w3 ⟨rfl,g3⟩;have B3:=hide (below_grown B2.out g3);have T3:=hide (T2.out.frame g3.size (fun b _ hb _=>⟨g3.block b hb (by simp),rfl⟩));clear g3)
 go_ret3
 exact⟨_,ms,rfl,T3.out,B3.out⟩
def LoadPost (s:PS) (w:World) (e:Ending) (w':World):Prop :=
 ∃ lb mb ρ V,e=.returned (.tuple #[.pointer (some ⟨lb,0,none⟩),.int .i64 0,.int .i64 0])∧w'.heap[lb]?=some (.cells #[.pointer (some ⟨mb,0,none⟩)] 77)∧ρ lb=.junk∧w.heap.size≤lb ∧
  MsAt w' mb ρ (makeF (namedF s).2 (rootOf s)) V (newF (makeF (namedF s).2 (rootOf s)))∧Below w.heap.size w w'∧∀ g,g<w.heap.size->ρ g=.junk
set_option maxRecDepth 20000 in
set_option maxHeartbeats 4000000 in
theorem Load_ok (text:Bs) (w:World) (hs:text.length≤9223372036854775807) (m:Int) (hm:w.cell? ⟨0,0,none⟩=some (.int .i64 m)) (s:PS) (hp:(parseF text (linesF text)).1=some s) (hck:checkF text=(0,0)) :
  Calls Tryz.prog 37 #[.string ⟨text.toArray⟩] w (LoadPost s w):=by
 obtain⟨n,E,ok⟩:=text_all text s hp
 have R:=hide (sread_ok text w hs m hm s hp hck)
 have Ok:=hide ok
 unfold LoadPost
 clear hs hm hp hck ok
 generalize (namedF s).2=T at *
 generalize rootOf s=r at *
 go_enter Tryz.func37,Tryz.ntmps37
 go_wp2_with fail
 refine R.out.mono ?_
 rintro e w1 ⟨ρ1,ms,rfl,t1,b1⟩
 have hc:=Ok.out.code
 have hb:=Ok.out.br
 have MkC:=hide (cMake_any Ok.out.tok Ok.out.root w1 t1.tr (by have e:(makeF T r).code.length=(procM T T.length r ⟨[],[],3⟩).code.length+1:=add_len _ _ _;omega) (by have e:(makeF T r).br=(procM T T.length r ⟨[],[],3⟩).br:=rfl;rw [e] at hb;omega))
 have B1:=hide b1
 clear t1 b1 R hc hb
 unfold ptrTo at MkC ⊢
 generalize blkOf ms r=nb at *
 go_wp2_with (first
  | (go_at_call 55;refine MkC.out.mono ?_;rintro e w2 ⟨vc,vb,rfl,pg,b2⟩;obtain⟨ca,cc,hvc⟩:=ownsRow_len pg.code;obtain⟨ba,bc,hvb⟩:=ownsRow_len pg.br;subst hvc;subst hvb;have Pg:=hide pg;have B2:=hide b2;clear pg b2;rw [Ok.out.room])
  | (go_at_call 54;refine (mNew_any _ Pg.out Ok.out.room (by have:=Ok.out.n2;omega)).mono ?_;rintro e w3 ⟨mb,ρ3,V3,rfl,k3,b3,lm3,j3⟩;have K3:=hide k3;have B3:=hide b3;have J3:=hide j3;have Lm3:=hide lm3;clear k3 b3 j3 lm3))
 go_ret3
 have a3:=K3.out.allocJ (.cells #[.pointer (some ⟨mb,0,none⟩)] 77)
 have z1:=B1.out.size
 have z2:=B2.out.size
 have z3:=B3.out.size
 have bb:Below w.heap.size w w3:=⟨B3.out.os.trans (B2.out.os.trans B1.out.os),B3.out.tape.trans (B2.out.tape.trans B1.out.tape),B3.out.output.trans (B2.out.output.trans B1.out.output),by omega,fun k hk=>((B3.out.block k (by omega)).trans (B2.out.block k (by omega))).trans (B1.out.block k hk)⟩
 refine⟨w3.heap.size,mb,_,V3,rfl,at_new w3 _,junkR_new _ _,by omega,a3.1,bb.alloc (by omega) _,fun g hg=>?_⟩
 unfold junkR
 rw [if_neg (by omega)]
 exact J3.out g (by omega) (fun h=>by have:=Pg.out.lc g h;omega) (fun h=>by have:=Pg.out.lbr g h;omega)
end Go.Proofs.YtnhidaamfnjdjaaGreatDoor
namespace Go.Proofs.YtnhidaamfnjdjaaGreatDoor
open Go.RowKit Go.Maps
structure Shut (w:World) (lb mb:Nat) (ρ:Nat->MR) (C:CM) (V:MV) (s:MS):Prop where
 at_:w.heap[lb]?=some (.cells #[.pointer (some ⟨mb,0,none⟩)] 77)
 junk:ρ lb=.junk
 ms:MsAt w mb ρ C V s
section
variable {lb mb : Nat} {ρ : Nat → MR} {C : CM} {V : MV} {s : MS}
theorem Shut.go {w w':World} {ρ':Nat->MR} {V':MV} {s':MS} (h:Shut w lb mb ρ C V s) (k:MsAt w' mb ρ' C V' s') (g:MsGo V V' ρ ρ' w w'):Shut w' lb mb ρ' C V' s':=by
 have b:=g.fr.block lb (lt_of_at h.at_) (by rw [h.junk];simp)
 exact⟨b.1.trans h.at_,b.2.trans h.junk,k⟩
set_option maxRecDepth 20000 in
theorem sRun_any {ns:Bool} {fuel:Nat} {steps:Int} {r:Int×MS} (hrun:runC ns C.code C.br steps fuel 0 s=some r) (hst:steps≤1000000000000) (hcl:C.code.length≤1000000) (hbr:C.br.length≤1000000) {xr:PCh} (hch:r.2.chans[1]?=some xr) (hrl:okLens r.2=true) (SL:ns=false->SleepH mb C) (WK:ns=false->WakeH mb C) (w:World) (h:Shut w lb mb ρ C V s) :
  Calls Tryz.prog 25 #[.pointer (some ⟨lb,0,none⟩),.int .i64 steps] w fun e w'=>e=.returned (.tuple #[.int .i64 r.1,.int .i64 r.2.stands])∧∃ ρ' V',Shut w' lb mb ρ' C V' r.2∧MsGo V V' ρ ρ' w w':=by
 have c0:w.cell? ⟨lb,0,none⟩=some (.pointer (some ⟨mb,0,none⟩)):=cell_at h.at_ 0
 have R:=hide (mrun_any hrun hst hcl hbr hch hrl SL WK w h.ms)
 have H:=hide h
 clear h hrun
 go_enter Tryz.func25,Tryz.ntmps25
 go_wp2_with (go_at_call 38;refine R.out.mono ?_;rintro e w1 ⟨rfl,p1⟩;have P1:=hide p1;clear p1)
 go_ret2
 obtain⟨ρ',V',k,g⟩:=P1.out
 exact⟨rfl,ρ',V',H.out.go k g,g⟩
set_option maxRecDepth 20000 in
theorem sOut_any (w:World) (h:Shut w lb mb ρ C V s) :
  Calls Tryz.prog 26 #[.pointer (some ⟨lb,0,none⟩)] w fun e w'=>e=.returned V.wr∧QAt w' 3 V.wr (s.out.map intV)∧Shut w' lb mb (giveR ρ V.wr) C { V with wr:=.slice none 0 0 } { s with out:=[] }∧MsGo V { V with wr:=.slice none 0 0 } ρ (giveR ρ V.wr) w w':=by
 have c0:w.cell? ⟨lb,0,none⟩=some (.pointer (some ⟨mb,0,none⟩)):=cell_at h.at_ 0
 obtain⟨va,cc,hv⟩:=(h.ms.out (fun x=>x)).1.len
 have R:=hide (mout_any w h.ms)
 have H:=hide h
 have Hv:=hide hv
 clear h hv
 generalize hnl:(s.out.map intV).length=nl at *
 clear hnl
 rw [Hv.out] at R ⊢
 go_enter Tryz.func26,Tryz.ntmps26
 go_wp2_with (go_at_call 39;refine R.out.mono ?_;rintro e w1 ⟨rfl,q1,k1,g1⟩;have Q1:=hide q1;have K1:=hide k1;have G1:=hide g1;clear q1 k1 g1)
 go_ret
 exact⟨rfl,Q1.out,H.out.go K1.out G1.out,G1.out⟩
set_option maxRecDepth 20000 in
theorem sTime_any (w:World) (h:Shut w lb mb ρ C V s) :
  Calls Tryz.prog 28 #[.pointer (some ⟨lb,0,none⟩)] w fun e w'=>e=.returned (.int .i64 s.time)∧w'=w:=by
 have c0:w.cell? ⟨lb,0,none⟩=some (.pointer (some ⟨mb,0,none⟩)):=cell_at h.at_ 0
 have R:=hide (mtime_any w h.ms)
 clear h
 go_enter Tryz.func28,Tryz.ntmps28
 go_wp2_with (go_at_call 41;refine R.out.mono ?_;rintro e w1 ⟨rfl,hw⟩;have hw:=hw.symm;subst hw)
 go_ret
 exact⟨rfl,rfl⟩
end
set_option maxRecDepth 20000 in
theorem loaded_ok (text:Bs) (w:World) (hs:text.length≤9223372036854775807) (m:Int) (hm:w.cell? ⟨0,0,none⟩=some (.int .i64 m)) (s:PS) (hp:(parseF text (linesF text)).1=some s) (hck:checkF text=(0,0)) :
  Calls Tryz.prog 24 #[.string ⟨text.toArray⟩] w fun e w'=>∃ lb mb ρ V,e=.returned (.pointer (some ⟨lb,0,none⟩))∧w.heap.size≤lb∧Shut w' lb mb ρ (makeF (namedF s).2 (rootOf s)) V (newF (makeF (namedF s).2 (rootOf s)))∧Below w.heap.size w w'∧∀ g,g<w.heap.size->ρ g=.junk:=by
 have L:=hide (Load_ok text w hs m hm s hp hck)
 clear hs hm hp hck
 go_enter Tryz.func24,Tryz.ntmps24
 go_wp2_with (go_at_call 37;refine L.out.mono ?_;rintro e w1 ⟨lb,mb,ρ,V,rfl,a1,j1,l1,k1,b1,z1⟩;have A1:=hide a1;have J1:=hide j1;have L1:=hide l1;have K1:=hide k1;have B1:=hide b1;have Z1:=hide z1;clear a1 j1 l1 k1 b1 z1)
 go_ret
 exact⟨lb,mb,ρ,V,rfl,L1.out,⟨A1.out,J1.out,K1.out⟩,B1.out,Z1.out⟩
end Go.Proofs.YtnhidaamfnjdjaaGreatDoor
