import Derived.Test.YtnhidaamfnjdjaaGreatDoorYRgA
import Derived.Test.YtnhidaamfnjdjaaGreatDoorYTnC
import Derived.Test.YtnhidaamfnjdjaaGreatDoorYTnD
import Derived.Test.YtnhidaamfnjdjaaGreatDoorYMadK
import Derived.Test.YtnhidaamfnjdjaaGreatDoorZMaeA
import Derived.Test.YtnhidaamfnjdjaaGreatDoorYSamA
namespace Go.Proofs.YtnhidaamfnjdjaaGreatDoor
open Go.RowKit Go.Maps
theorem finR_is (y:Int):∀ j,finR y j=w64 (y+(((j+1) * (j+2) / 2:Nat):Int))
 | 0=>rfl
 | j+1=>by
  unfold finR
  rw [finR_is y j]
  have e:(j+1+1) * (j+1+2) / 2=(j+1) * (j+2) / 2+(j+2):=by
   have:(j+1+1) * (j+1+2)=(j+1) * (j+2)+(j+2) * 2:=by
    rw [<-Nat.mul_comm (j+2) (j+1),<-Nat.mul_add]
   rw [this,Nat.add_mul_div_right _ _ (by decide)]
  rw [e]
  push_cast
  generalize (((j+1) * (j+2) / 2:Nat):Int)=q
  have hq:((j:Int)+1) * (j+2) / 2=((j:Int)+1) * (j+2) / 2:=rfl
  clear hq
  unfold w64 wrap64
  omega
structure RowM (T:List PNode) (C:CM) (nn n:Nat):Prop where
 ok:TmOk T C.code nn
 n3:3≤nn
 cl:C.code.length≤1000000
 bl:C.br.length≤1000000
 rt:RowT T n
 hd:HeadT T n
 h0:0<n
 start:Both T C.code C.br nn 0 0 (newF C) (rootS n 1 [])
theorem row_machine (n:Nat) (h1:1≤n) (h5:n≤5):∃ (T:List PNode) (C:CM) (nn:Nat),RowM T C nn n∧∀ (b:ByteArray),b=⟨(itText (rowI n)).toArray⟩->∀ (w:World) (m:Int),w.cell? ⟨0,0,none⟩=some (.int .i64 m) ->
  Calls Tryz.prog 24 #[.string b] w fun e w'=>∃ lb mb ρ V,e=.returned (.pointer (some ⟨lb,0,none⟩))∧w.heap.size≤lb∧Shut w' lb mb ρ C V (newF C)∧Below w.heap.size w w'∧∀ g,g<w.heap.size->ρ g=.junk:=by
 obtain⟨hlen,s,hp,hc,hr,hroom,rt,hd⟩:=row_right n h1 h5
 obtain⟨nn,E,tok⟩:=text_all (itText (rowI n)) s (by rw [hp])
 have st:=start_both tok
 rw [hr] at tok st
 have hnn:nn=2 * n+2:=by have:=tok.room;rw [hroom] at this;omega
 have hst:newT (nn:Int) 1=rootS n 1 []:=by rw [hnn];exact root_new n h1 h5
 refine⟨(namedF s).2,makeF (namedF s).2 1,nn,⟨tok.tmOk,tok.n3,by have:=tok.code;omega,by have:=tok.br;omega,rt,hd,h1,?_⟩,?_⟩
 ·rw [<-hst];exact st
 ·intro b hb w m hm
  subst hb
  have:=loaded_ok (itText (rowI n)) w (by omega) m hm s (by rw [hp]) hc
  rw [hr] at this
  exact this
def MchR (T:List PNode) (C:CM) (nn n N F:Nat) (Φ:Int) (G:List Int) (s:MS):Prop:=∃ t,Both T C.code C.br nn N F s t∧RP n Φ G 0 t
section
variable {T : List PNode} {C : CM} {nn n N F : Nat} {Φ : Int} {G : List Int} {s : MS}
theorem MchR.start (rm:RowM T C nn n):MchR T C nn n 0 0 (1+((n * 2:Nat):Int)) [] (newF C):=by
 refine⟨_,rm.start,?_⟩
 have:=RP.new rm.h0 []
 rw [List.map_nil,show n * (3 * ([]:List Int).length+2)=n * 2 by simp] at this
 exact this
theorem MchR.feed (rm:RowM T C nn n) (h:MchR T C nn n N F Φ G s) (y:Int):MchR T C nn n N (F+1) (Φ+3 * n) (G++[finR y (n - 1)]) (s.send 1 y).2:=by
 obtain⟨t,hb,hl⟩:=h
 exact⟨_,hb.feed rm.ok y,hl.feed rm.rt rm.h0 y⟩
theorem MchR.out (h:MchR T C nn n N F Φ G s):∃ G',G=s.out++G'∧MchR T C nn n N F Φ G' { s with out:=[] }:=by
 obtain⟨t,hb,hl⟩:=h
 obtain⟨G',e,r⟩:=hl.out
 refine⟨G',by rw [hb.sim.out];exact e,_,hb.out [] (Nat.zero_le _),r⟩
theorem MchR.stands (rm:RowM T C nn n) (h:MchR T C nn n N F Φ G s):(s.stands=1∧0<Φ)∨(s.stands=3∧s.out=G):=by
 obtain⟨t,hb,hl⟩:=h
 rw [stands_both hb.sim,hb.sim.out]
 exact hl.stands rm.h0
theorem MchR.time (h:MchR T C nn n N F Φ G s):s.time=0:=by
 obtain⟨t,hb,hl⟩:=h
 rw [hb.sim.time]
 rcases hl with ⟨i,l,_,_,rfl,_⟩|⟨a,inv,_⟩
 ·rfl
 ·exact inv.calm.2.2.2.2
theorem MchR.outs (h:MchR T C nn n N F Φ G s):s.out.length≤G.length:=by
 obtain⟨G',e,_⟩:=h.out
 rw [e,List.length_append]
 omega
theorem MchR.run (rm:RowM T C nn n) (h:MchR T C nn n N F Φ G s) (hF:F≤17600000000000) {steps:Int} (hst:(N:Int)+steps≤400000000) (hN:N≤400000000) :
  ∃ (d':Int) (s':MS) (N':Nat),MchR T C nn n N' F (Φ - d') G s'∧0≤d'∧(d'≤steps∨d'=0)∧(N':Int)≤N+d'∧(s'.stands=1->steps≤d') ∧
   ∀ (lb mb:Nat) (ρ:Nat->MR) (V:MV) (w:World),Shut w lb mb ρ C V s->Calls Tryz.prog 25 #[.pointer (some ⟨lb,0,none⟩),.int .i64 steps] w fun e w'=>e=.returned (.tuple #[.int .i64 d',.int .i64 s'.stands])∧∃ ρ' V',Shut w' lb mb ρ' C V' s'∧MsGo V V' ρ ρ' w w':=by
 obtain⟨t,hb,hl⟩:=h
 obtain⟨d',s',t',N',⟨f,h1⟩,h2,h3,h4,h5,h6⟩:=run_allD (steps:=steps) rm.ok hF (RP.kept rm.rt rm.hd rm.h0 nn) _ _ 0 s t N rfl rfl hb hl (by omega) hN
 have hN':N'≤400000000:=by omega
 obtain⟨hl',hsk⟩:=h2.lensS rm.ok hN'
 obtain⟨x,hx,_⟩:=h2.ch1 rm.n3
 refine⟨d',s',N',⟨t',h2,h3.shift⟩,h4,by omega,by omega,fun hs=>?_,fun lb mb ρ V w h=>?_⟩
 ·rcases (show d'<steps∨steps≤d' by omega) with hlt|hge
  ·obtain⟨q1,q2⟩:=run_less f 0 s _ h1 hlt
   exact absurd hs (stands_not q1 q2)
  ·exact hge
 ·exact sRun_any h1 (by omega) rm.cl rm.bl hx (okLens_of hl' hsk) (fun _=>sleepH mb C) (fun _=>wakeH mb C) w h
end
end Go.Proofs.YtnhidaamfnjdjaaGreatDoor
namespace Go.Proofs.YtnhidaamfnjdjaaGreatDoor
open Go.RowKit Go.Maps
theorem wpList_appendRL {P:Program} {t e:TypeId} {z:Value} {bytes:Nat} (ht:P.underlying t=some (.slice e)) (hi:(P.info? e).map (fun i=>(i.zero,i.size,i.bytes))=some (some z,1,bytes)) (hzs:z.cells.size=1) (hby:bytes≤128)
  {w:World} {ops:Array Oper} {rest:List Oper} {o:Oper} {a:Act} {Q:Exit->Act->World->Prop} (hgd:o.guard=none) (s x:Operand)
  (ho:o.op=.call { callee:=.builtin .append,args:=#[s,x],argTypes:=#[t,t] })
  (v:Value) (n:Nat) (xs:List Value) (hs:a.eval s=v) (hown:w.ownsRow 0 e 1 v n xs) (v2:Value) (ys:List Value) (hx:a.eval x=v2) (hq:QAt w e v2 ys) (hone:∀ u∈ys,u.oneCell'=true) (hn:n+ys.length≤1000000000000)
  (h:∀ v' w',w'.ownsRow 0 e 1 v' (n+ys.length) (xs++ys)->w.grownBy w' v.ownBlock->(v'.ownBlock=v.ownBlock∨∃ g,v'.ownBlock=some g∧w.heap.size≤g)->wpList P ops Q rest (a.put o.dst v') w'):wpList P ops Q (o :: rest) a w:=by
 rcases hq with ⟨rfl,rfl⟩|⟨g,off,cap,cur,rfl,hg,h1,h2,h3,h4⟩
 ·refine wpList_append0 ht hi hgd s x ho v n xs hs hown hx (h v w ?_ ⟨rfl,rfl,rfl,Nat.le_refl _,fun _ _ _=>rfl⟩ (.inl rfl))
  simpa using hown
 ·refine wpList_plain hgd fun K hK=>?_
  obtain⟨v',w',hr,r2,r3,r4⟩:=run_appendL (by decide) ht hi hzs hby w o.type v n xs hown ⟨g,off,none⟩ ys.length cap ys (by simp) (fun j u hu=>by
   have hj:j<ys.length:=(List.getElem?_eq_some_iff.1 hu).1
   have ea:(⟨g,off,none⟩:Addr).add j=⟨g,off+j,none⟩:=by cases j <;> simp [Addr.add]
   rw [ea]
   rw [cell_at hg]
   rw [<-h4] at hu
   rw [List.getElem?_take,if_pos hj,List.getElem?_drop] at hu
   simpa using hu) hone hn
  unfold Oper.wp execOp
  simp only [ho,resolve,invoke,builtin,Sem.run_bind,Sem.run_pure,Result.andThen_ok,List.map_toArray,List.map_cons,List.map_nil,hs,hx,hr]
  exact hK _ _ (h v' w' r2 r3 r4)
def OnlyJR:MR->Prop:=fun r=>r=.junk
theorem MsIf.ofJR {w:World} {mb:Nat} {ρ:Nat->MR} {C:CM} {V:MV} {s:MS} (h:MsIf OnlyJR w mb ρ C V s):MsAt w mb ρ C V s :=
 ⟨fun _=>h.blk (by unfold OnlyJR;simp),h.rb,fun _=>h.code (by unfold OnlyJR;simp),fun _=>h.brs (by unfold OnlyJR;simp),fun _=>h.vars (by unfold OnlyJR;simp),fun _=>h.chans (by unfold OnlyJR;simp),fun _=>h.stack (by unfold OnlyJR;simp),fun _=>h.urg (by unfold OnlyJR;simp),fun _=>h.oth (by unfold OnlyJR;simp),fun _=>h.slp (by unfold OnlyJR;simp),fun _=>h.out (by unfold OnlyJR;simp),fun i p hp _=>h.proc i p hp (by unfold OnlyJR;simp),fun i p hp _=>h.opn i p hp (by unfold OnlyJR;simp),fun c x hx _=>h.num c x hx (by unfold OnlyJR;simp),h.lens⟩
def clrQ (ρ:Nat->MR) (N:Nat):Nat->MR:=fun g=>if g<N then ρ g else .junk
theorem clrQ_junk {ρ:Nat->MR} {N g:Nat} (h:ρ g=.junk):clrQ ρ N g=.junk:=by
 unfold clrQ
 split
 ·exact h
 ·rfl
theorem clrQ_new {ρ:Nat->MR} {N g:Nat} (h:N≤g):clrQ ρ N g=.junk:=by
 unfold clrQ
 rw [if_neg (by omega)]
theorem Shut.keptQ {w w':World} {lb mb:Nat} {ρ:Nat->MR} {C:CM} {V:MV} {s:MS} (h:Shut w lb mb ρ C V s) (hos:w'.os=w.os) (ht:w'.tape=w.tape) (ho:w'.output=w.output) (hs:w.heap.size≤w'.heap.size) (hb:∀ g,g<w.heap.size->ρ g≠.junk->w'.heap[g]?=w.heap[g]?) (hl:w'.heap[lb]?=w.heap[lb]?):Shut w' lb mb (clrQ ρ w.heap.size) C V s where
 at_:=hl.trans h.at_
 junk:=by
  unfold clrQ
  split
  ·exact h.junk
  ·rfl
 ms:=by
  have f:MsFr OnlyJR ρ (clrQ ρ w.heap.size) w w':=⟨hos,ht,ho,hs,fun g hg hA=>⟨hb g hg hA,by unfold clrQ;rw [if_pos hg]⟩⟩
  exact (MsIf.keep h.ms f (by unfold clrQ;rw [if_pos h.ms.rb.2];exact h.ms.rb.1)).ofJR
structure RO (w0 w:World) (lb:Nat) (C:CM) (sb:MS) (v:Value) (o:List Int):Prop where
 one:∃ mb ρ V,Shut w lb mb ρ C V sb∧(∀ g,g<w0.heap.size->ρ g=.junk)∧∀ g,v.ownBlock=some g->ρ g=.junk
 own:∀ g,v.ownBlock=some g->w0.heap.size≤g∧g≠lb
 low:w0.heap.size≤lb
 bel:Below w0.heap.size w0 w
 row:w.ownsRow 0 3 1 v o.length (o.map intV)
section
variable {w0 w w' : World} {lb : Nat} {C : CM} {sb sb' : MS} {v : Value} {o : List Int}
theorem RO.goes {mb:Nat} {ρ ρ':Nat->MR} {V V':MV} (own:∀ g,v.ownBlock=some g->w0.heap.size≤g∧g≠lb) (low:w0.heap.size≤lb) (bel:Below w0.heap.size w0 w) (row:w.ownsRow 0 3 1 v o.length (o.map intV))
  (j:∀ g,g<w0.heap.size->ρ g=.junk) (k:∀ g,v.ownBlock=some g->ρ g=.junk) (s:Shut w' lb mb ρ' C V' sb') (g:MsGo V V' ρ ρ' w w'):RO w0 w' lb C sb' v o:=by
 refine⟨⟨mb,ρ',V',s,fun q hq=>?_,fun q hq=>?_⟩,own,low,?_,?_⟩
 ·exact (g.fr.block q (Nat.lt_of_lt_of_le hq bel.size) (by rw [j q hq];simp)).2.trans (j q hq)
 ·exact (g.fr.block q (row.lt q hq).2 (by rw [k q hq];simp)).2.trans (k q hq)
 ·exact⟨g.fr.os.trans bel.os,g.fr.tape.trans bel.tape,g.fr.output.trans bel.output,Nat.le_trans bel.size g.fr.size,fun q hq=>((g.fr.block q (Nat.lt_of_lt_of_le hq bel.size) (by rw [j q hq];simp)).1).trans (bel.block q hq)⟩
 ·exact ownsRow_frame row (fun q hq=>(g.fr.block q (row.lt q hq).2 (by rw [k q hq];simp)).1)
theorem RO.call {f:FuncId} {args:Array Value} {E:Ending} (h:RO w0 w lb C sb v o) (c:∀ (mb:Nat) (ρ:Nat->MR) (V:MV),Shut w lb mb ρ C V sb->Calls Tryz.prog f args w fun e w'=>e=E∧∃ ρ' V',Shut w' lb mb ρ' C V' sb'∧MsGo V V' ρ ρ' w w') :
  Calls Tryz.prog f args w fun e w'=>e=E∧RO w0 w' lb C sb' v o:=by
 obtain⟨⟨mb,ρ,V,t,j,k⟩,own,low,bel,row⟩:=h
 refine (c mb ρ V t).mono ?_
 rintro e w' ⟨he,ρ',V',s,g⟩
 exact⟨he,RO.goes own low bel row j k s g⟩
theorem RO.out (h:RO w0 w lb C sb v o) (A:List Int) (hA:sb.out=A):Calls Tryz.prog 26 #[.pointer (some ⟨lb,0,none⟩)] w fun e w'=>∃ va cc,e=.returned (.slice va A.length cc)∧QAt w' 3 (.slice va A.length cc) (A.map intV)∧RO w0 w' lb C { sb with out:=[] } v o:=by
 subst hA
 obtain⟨⟨mb,ρ,V,t,j,k⟩,own,low,bel,row⟩:=h
 refine (sOut_any w t).mono ?_
 rintro e w' ⟨he,q,s,g⟩
 obtain⟨va,cc,hv⟩:=q.len
 rw [List.length_map] at hv
 rw [hv] at he q
 exact⟨va,cc,he,q,RO.goes own low bel row j k s g⟩
theorem RO.time (h:RO w0 w lb C sb v o):Calls Tryz.prog 28 #[.pointer (some ⟨lb,0,none⟩)] w fun e w'=>e=.returned (.int .i64 sb.time)∧w'=w:=by
 obtain⟨⟨mb,ρ,V,t,j,k⟩,own,low,bel,row⟩:=h
 exact sTime_any w t
theorem RO.grown {v':Value} {l:List Int} (h:RO w0 w lb C sb v o) (r:w'.ownsRow 0 3 1 v' (o.length+l.length) (o.map intV++l.map intV)) (g:w.grownBy w' v.ownBlock) (hv:v'.ownBlock=v.ownBlock∨∃ g,v'.ownBlock=some g∧w.heap.size≤g):RO w0 w' lb C sb v' (o++l):=by
 obtain⟨⟨mb,ρ,V,t,j,k⟩,own,low,bel,row⟩:=h
 have hlb:lb<w.heap.size:=lt_of_at t.at_
 have nb:some lb≠v.ownBlock:=fun e=>(own lb e.symm).2 rfl
 have na:∀ q,ρ q≠.junk->some q≠v.ownBlock:=fun q hq e=>hq (k q e.symm)
 have old:∀ q,q<w0.heap.size->some q≠v.ownBlock:=fun q hq e=>by have:=(own q e.symm).1;omega
 refine⟨⟨mb,clrQ ρ w.heap.size,V,?_,fun q hq=>clrQ_junk (j q hq),fun q hq=>?_⟩,fun q hq=>?_,low,?_,?_⟩
 ·exact t.keptQ g.os g.tape g.output g.size (fun q hq hn=>g.block q hq (na q hn)) (g.block lb hlb nb)
 ·rcases hv with e|⟨q',e,hq'⟩
  ·rw [e] at hq
   exact clrQ_junk (k q hq)
  ·rw [e] at hq
   injection hq with hq
   subst hq
   exact clrQ_new hq'
 ·rcases hv with e|⟨q',e,hq'⟩
  ·rw [e] at hq
   exact own q hq
  ·rw [e] at hq
   injection hq with hq
   subst hq
   exact⟨Nat.le_trans bel.size hq',by omega⟩
 ·exact⟨g.os.trans bel.os,g.tape.trans bel.tape,g.output.trans bel.output,Nat.le_trans bel.size g.size,fun q hq=>(g.block q (Nat.lt_of_lt_of_le hq bel.size) (old q hq)).trans (bel.block q hq)⟩
 ·rw [List.length_append,List.map_append]
  exact r
theorem RO.drewN (h:RO w0 w lb C sb v o) (n:Nat):RO w0 (w.drewN n) lb C sb v o:=by
 obtain⟨⟨mb,ρ,V,t,j,k⟩,own,low,bel,row⟩:=h
 exact⟨⟨mb,_,V,t.keptQ (w':=w.drewN n) rfl rfl rfl (Nat.le_refl _) (fun _ _ _=>rfl) rfl,fun q hq=>clrQ_junk (j q hq),fun q hq=>clrQ_junk (k q hq)⟩,own,low,⟨bel.os,bel.tape,bel.output,bel.size,bel.block⟩,ownsRow_frame row (fun _ _=>rfl)⟩
theorem RO.rowIs {va:Option Addr} {nn cc:Nat} (h:RO w0 w lb C sb (.slice va nn cc) o):nn=o.length∧RowI w va o:=by
 have row:=h.row
 rcases row.2 with ⟨e,h0⟩|⟨g,cap,cur,e,_,hg,h1,h2,h3,h4⟩
 ·rw [Value.slice.injEq] at e
  exact⟨by omega,fun k hk=>by omega⟩
 ·rw [Value.slice.injEq] at e
  obtain⟨rfl,rfl,rfl⟩:=e
  refine⟨rfl,fun k hk=>⟨g,0,rfl,?_⟩⟩
  rw [Nat.zero_add]
  refine ownsRow_cell hg (by simpa using h4) (j:=k) ?_
  rw [List.getElem?_map,List.getElem?_eq_getElem hk,getD_lt _ _ _ hk]
  rfl
theorem RO.slice (h:RO w0 w lb C sb v o):∃ va cc,v=.slice va o.length cc:=by
 rcases h.row.2 with ⟨e,h0⟩|⟨g,cap,cur,e,_⟩
 ·exact⟨none,0,by rw [e,h0]⟩
 ·exact⟨_,_,e⟩
theorem RO.new {mb:Nat} {ρ:Nat->MR} {V:MV} (a:Shut w lb mb ρ C V sb) (lb0:w0.heap.size≤lb) (b:Below w0.heap.size w0 w) (j:∀ g,g<w0.heap.size->ρ g=.junk):RO w0 w lb C sb (.slice none 0 0) [] :=
 ⟨⟨mb,ρ,V,a,j,fun g hg=>(by cases hg)⟩,fun g hg=>(by cases hg),lb0,b,World.ownsRow_nil w 0 _ 1⟩
end
def expR (n:Nat) (ns:List Int) (k:Nat):List Int:=((ns++[77]).take k).map fun y=>finR y (n - 1)
theorem expR_len (n:Nat) (ns:List Int) {k:Nat} (hk:k≤ns.length+1):(expR n ns k).length=k:=by
 unfold expR
 rw [List.length_map,List.length_take,List.length_append,List.length_singleton]
 omega
def numR (ns:List Int) (k:Nat):Int:=(ns++[77]).getD k 0
theorem expR_more (n:Nat) (ns:List Int) {k:Nat} (hk:k<ns.length+1):expR n ns (k+1)=expR n ns k++[finR (numR ns k) (n - 1)]:=by
 have hl:k<(ns++[77]).length:=by simp;omega
 unfold expR numR
 rw [List.take_add_one,List.getElem?_eq_getElem hl,getD_lt _ _ _ hl,List.map_append]
 rfl
theorem expR_at (n:Nat) (ns:List Int) {k m:Nat} (hk:k<m) (hm:m≤ns.length+1):(expR n ns m).getD k 0=finR (numR ns k) (n - 1):=by
 have hl:k<(ns++[77]).length:=by simp;omega
 unfold expR numR
 rw [List.getD,List.getElem?_map,List.getElem?_take,if_pos hk,List.getElem?_eq_getElem hl,getD_lt _ _ _ hl]
 rfl
structure FdI (w0 w:World) (lb:Nat) (T:List PNode) (C:CM) (nn n:Nat) (ns:List Int) (k:Nat) (v:Value):Prop where
 ex:∃ (s:MS) (o:List Int) (N:Nat) (Φ:Int) (G:List Int),RO w0 w lb C s v o∧MchR T C nn n N k Φ G s∧o++G=expR n ns k∧(N:Int)≤20 * k∧Φ≤11+15 * k
structure RnI (w0 w:World) (lb:Nat) (T:List PNode) (C:CM) (nn n:Nat) (ns:List Int) (i:Nat) (state:Int) (v:Value):Prop where
 ex:∃ (s:MS) (o:List Int) (N:Nat) (Φ:Int) (G:List Int),RO w0 w lb C s v o∧MchR T C nn n N (ns.length+1) Φ G s∧o++G=expR n ns (ns.length+1)∧(N:Int)≤20 * (ns.length+1)+i∧(state=1->Φ+i≤26+15 * ns.length)∧((i=0∧state=1)∨(0<i∧state=s.stands))
section
variable {w0 w : World} {lb : Nat} {T : List PNode} {C : CM} {nn n : Nat} {ns : List Int} {v : Value}
theorem FdI.fed {k:Nat} (rm:RowM T C nn n) (h5:n≤5) (h:FdI w0 w lb T C nn n ns k v) (hl:ns.length≤1048576) (hk:k<ns.length+1) :
  ∃ (s:MS) (o:List Int),(Calls Tryz.prog 27 #[.pointer (some ⟨lb,0,none⟩),.int .i64 (numR ns k)] w fun e w1=>e=.returned (.tuple #[])∧RO w0 w1 lb C s v o) ∧
   (∀ w1,RO w0 w1 lb C s v o->FdI w0 w1 lb T C nn n ns (k+1) v) ∧
   ∀ (c:Nat),c≤20->∃ (d st:Int) (s':MS),o.length+s'.out.length≤1000000000000∧(∀ w1,RO w0 w1 lb C s v o->Calls Tryz.prog 25 #[.pointer (some ⟨lb,0,none⟩),.int .i64 (c:Int)] w1 fun e w2=>e=.returned (.tuple #[.int .i64 d,.int .i64 st])∧RO w0 w2 lb C s' v o) ∧
    ∀ w3 v',RO w0 w3 lb C { s' with out:=[] } v' (o++s'.out)->FdI w0 w3 lb T C nn n ns (k+1) v':=by
 obtain⟨s,o,N,Φ,G,ro,mc,hG,hN,hΦ⟩:=h.ex
 have hlen:=expR_len n ns (k:=k) (by omega)
 obtain⟨t,hb,hrp⟩:=mc
 have mc':=MchR.feed rm ⟨t,hb,hrp⟩ (numR ns k)
 have hG':o++(G++[finR (numR ns k) (n - 1)])=expR n ns (k+1):=by rw [expR_more n ns hk,<-hG,List.append_assoc]
 refine⟨_,o,ro.call (fun mb ρ V q=>sFeed_both rm.ok rm.n3 hb (by omega) (by omega) (numR ns k) w q),fun w1 r1=>⟨_,o,N,_,_,r1,mc',hG',by omega,by omega⟩,fun c hc=>?_⟩
 obtain⟨d,s',N',m2,d0,d1,hN',_,run⟩:=mc'.run rm (by omega) (steps:=(c:Int)) (by omega) (by omega)
 obtain⟨G2,e2,m3⟩:=m2.out
 refine⟨d,s'.stands,s',?_,fun w1 r1=>r1.call (fun mb ρ V q=>run lb mb ρ V w1 q),fun w3 v' r3=>⟨_,_,N',_,G2,r3,m3,?_,by omega,by omega⟩⟩
 ·have h1:=m2.outs
  have h2:=congrArg List.length hG'
  rw [expR_len n ns (by omega),List.length_append] at h2
  omega
 ·rw [<-hG',e2,List.append_assoc]
theorem FdI.rn (h:FdI w0 w lb T C nn n ns (ns.length+1) v):RnI w0 w lb T C nn n ns 0 1 v:=by
 obtain⟨s,o,N,Φ,G,ro,mc,hG,hN,hΦ⟩:=h.ex
 exact⟨s,o,N,Φ,G,ro,mc,hG,by omega,fun _=>by omega,.inl ⟨rfl,rfl⟩⟩
theorem RnI.round {i:Nat} (rm:RowM T C nn n) (h:RnI w0 w lb T C nn n ns i 1 v) (hl:ns.length≤1048576) (hi:(i:Int)<100 * ns.length+200) :
  ∃ (d st:Int) (s':MS) (o:List Int),(Calls Tryz.prog 25 #[.pointer (some ⟨lb,0,none⟩),.int .i64 1] w fun e w1=>e=.returned (.tuple #[.int .i64 d,.int .i64 st])∧RO w0 w1 lb C s' v o)∧∀ w1,RO w0 w1 lb C s' v o->RnI w0 w1 lb T C nn n ns (i+1) st v:=by
 obtain⟨s,o,N,Φ,G,ro,mc,hG,hN,hΦ,hst⟩:=h.ex
 obtain⟨d,s',N',m2,d0,d1,hN',hr,run⟩:=mc.run rm (by omega) (steps:=1) (by omega) (by omega)
 refine⟨d,s'.stands,s',o,ro.call (fun mb ρ V q=>run lb mb ρ V w q),fun w1 r1=>⟨s',o,N',_,G,r1,m2,hG,by omega,fun e=>?_,.inr ⟨by omega,rfl⟩⟩⟩
 have:=hr e
 have:=hΦ rfl
 omega
theorem RnI.done {i:Nat} {st:Int} (rm:RowM T C nn n) (h:RnI w0 w lb T C nn n ns i st v) (hs:st≠1):st=3∧∃ (s:MS) (o:List Int),RO w0 w lb C s v o∧o++s.out=expR n ns (ns.length+1)∧s.time=0:=by
 obtain⟨s,o,N,Φ,G,ro,mc,hG,hN,hΦ,hst⟩:=h.ex
 rcases hst with ⟨_,h2⟩|⟨h1,h2⟩
 ·exact absurd h2 hs
 ·rcases mc.stands rm with ⟨x,_⟩|⟨x,y⟩
  ·omega
  ·exact⟨by omega,s,o,ro,by rw [y];exact hG,mc.time⟩
theorem RnI.more {i:Nat} {st:Int} (rm:RowM T C nn n) (h:RnI w0 w lb T C nn n ns i st v) (hs:st=1):(i:Int)<100 * ns.length+200:=by
 obtain⟨s,o,N,Φ,G,ro,mc,hG,hN,hΦ,hst⟩:=h.ex
 rcases hst with ⟨h1,_⟩|⟨h1,h2⟩
 ·omega
 ·rcases mc.stands rm with ⟨x,y⟩|⟨x,_⟩
  ·have:=hΦ hs
   omega
  ·omega
end
end Go.Proofs.YtnhidaamfnjdjaaGreatDoor
