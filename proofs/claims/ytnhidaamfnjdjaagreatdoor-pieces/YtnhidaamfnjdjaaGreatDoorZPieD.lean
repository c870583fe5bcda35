import Derived.Test.YtnhidaamfnjdjaaGreatDoorZPieA
import Derived.Test.YtnhidaamfnjdjaaGreatDoorZPieC
import Derived.Test.YtnhidaamfnjdjaaGreatDoorZBagA
namespace Go.Proofs.YtnhidaamfnjdjaaGreatDoor
open Go.RowKit Go.Maps
structure PO (w0 w:World) (la lb:Nat) (C:CM) (sa sb:MS) (v:Value) (o:List Int):Prop where
 two:∃ ma ρa Va mb ρb Vb,Twin w la ma ρa C Va sa lb mb ρb C Vb sb∧(∀ g,g<w0.heap.size->ρa g=.junk∧ρb g=.junk)∧∀ g,v.ownBlock=some g->ρa g=.junk∧ρb g=.junk
 own:∀ g,v.ownBlock=some g->w0.heap.size≤g∧g≠la∧g≠lb
 low:w0.heap.size≤la∧w0.heap.size≤lb
 bel:Below w0.heap.size w0 w
 row:w.ownsRow 0 3 1 v o.length (o.map intV)
section
variable {w0 w w' : World} {la lb : Nat} {C : CM} {sa sb sb' : MS} {v : Value} {o : List Int}
theorem PO.swap (h:PO w0 w la lb C sa sb v o):PO w0 w lb la C sb sa v o:=by
 obtain⟨⟨ma,ρa,Va,mb,ρb,Vb,t,j,k⟩,own,low,bel,row⟩:=h
 exact⟨⟨mb,ρb,Vb,ma,ρa,Va,t.swap,fun g hg=>(j g hg).symm,fun g hg=>(k g hg).symm⟩,fun g hg=>⟨(own g hg).1,(own g hg).2.2,(own g hg).2.1⟩,low.symm,bel,row⟩
theorem clr_junk {ρ:Nat->MR} {N g:Nat} (h:ρ g=.junk):clrR ρ N g=.junk:=by
 unfold clrR
 split
 ·exact h
 ·rfl
theorem clr_new {ρ:Nat->MR} {N g:Nat} (h:N≤g):clrR ρ N g=.junk:=by
 unfold clrR
 rw [if_neg (by omega)]
theorem PO.goes {ma mb:Nat} {ρa ρb ρb':Nat->MR} {Va Vb Vb':MV} (own:∀ g,v.ownBlock=some g->w0.heap.size≤g∧g≠la∧g≠lb) (low:w0.heap.size≤la∧w0.heap.size≤lb) (bel:Below w0.heap.size w0 w) (row:w.ownsRow 0 3 1 v o.length (o.map intV))
  (t:Twin w la ma ρa C Va sa lb mb ρb C Vb sb) (j:∀ g,g<w0.heap.size->ρa g=.junk∧ρb g=.junk) (k:∀ g,v.ownBlock=some g->ρa g=.junk∧ρb g=.junk) (s:Shut w' lb mb ρb' C Vb' sb') (g:MsGo Vb Vb' ρb ρb' w w'):PO w0 w' la lb C sa sb' v o:=by
 refine⟨⟨ma,_,Va,mb,ρb',Vb',t.right s g,fun q hq=>⟨clr_junk (j q hq).1,?_⟩,fun q hq=>⟨clr_junk (k q hq).1,?_⟩⟩,own,low,?_,?_⟩
 ·exact (g.fr.block q (Nat.lt_of_lt_of_le hq bel.size) (by rw [(j q hq).2];simp)).2.trans (j q hq).2
 ·exact (g.fr.block q (row.lt q hq).2 (by rw [(k q hq).2];simp)).2.trans (k q hq).2
 ·exact⟨g.fr.os.trans bel.os,g.fr.tape.trans bel.tape,g.fr.output.trans bel.output,Nat.le_trans bel.size g.fr.size,fun q hq=>((g.fr.block q (Nat.lt_of_lt_of_le hq bel.size) (by rw [(j q hq).2];simp)).1).trans (bel.block q hq)⟩
 ·exact ownsRow_frame row (fun q hq=>(g.fr.block q (row.lt q hq).2 (by rw [(k q hq).2];simp)).1)
theorem PO.call {f:FuncId} {args:Array Value} {E:Ending} (h:PO w0 w la lb C sa sb v o) (c:∀ (mb:Nat) (ρ:Nat->MR) (V:MV),Shut w lb mb ρ C V sb->Calls Tryz.prog f args w fun e w'=>e=E∧∃ ρ' V',Shut w' lb mb ρ' C V' sb'∧MsGo V V' ρ ρ' w w') :
  Calls Tryz.prog f args w fun e w'=>e=E∧PO w0 w' la lb C sa sb' v o:=by
 obtain⟨⟨ma,ρa,Va,mb,ρb,Vb,t,j,k⟩,own,low,bel,row⟩:=h
 refine (c mb ρb Vb t.b).mono ?_
 rintro e w' ⟨he,ρ',V',s,g⟩
 exact⟨he,PO.goes own low bel row t j k s g⟩
theorem PO.out (h:PO w0 w la lb C sa sb v o) (A:List Int) (hA:sb.out=A):Calls Tryz.prog 26 #[.pointer (some ⟨lb,0,none⟩)] w fun e w'=>∃ va cc,e=.returned (.slice va A.length cc)∧QAt w' 3 (.slice va A.length cc) (A.map intV)∧PO w0 w' la lb C sa { sb with out:=[] } v o:=by
 subst hA
 obtain⟨⟨ma,ρa,Va,mb,ρb,Vb,t,j,k⟩,own,low,bel,row⟩:=h
 refine (sOut_any w t.b).mono ?_
 rintro e w' ⟨he,q,s,g⟩
 obtain⟨va,cc,hv⟩:=q.len
 rw [List.length_map] at hv
 rw [hv] at he q
 exact⟨va,cc,he,q,PO.goes own low bel row t j k s g⟩
theorem PO.time (h:PO w0 w la lb C sa sb v o):Calls Tryz.prog 28 #[.pointer (some ⟨lb,0,none⟩)] w fun e w'=>e=.returned (.int .i64 sb.time)∧w'=w:=by
 obtain⟨⟨ma,ρa,Va,mb,ρb,Vb,t,j,k⟩,own,low,bel,row⟩:=h
 exact sTime_any w t.b
theorem PO.rowIs {va:Option Addr} {nn cc:Nat} (h:PO w0 w la lb C sa sb (.slice va nn cc) o):nn=o.length∧RowI w va o:=by
 have row:=h.row
 rcases row.2 with ⟨e,h0⟩|⟨g,cap,cur,e,_,hg,h1,h2,h3,h4⟩
 ·rw [Value.slice.injEq] at e
  exact⟨by omega,fun k hk=>by omega⟩
 ·rw [Value.slice.injEq] at e
  obtain⟨rfl,rfl,rfl⟩:=e
  refine⟨rfl,fun k hk=>⟨g,0,rfl,?_⟩⟩
  rw [Nat.zero_add]
  refine ownsRow_cell hg (by simpa using h4) (j:=k) ?_
  rw [List.getElem?_map,List.getElem?_eq_getElem hk,getD_lt _ _ _ hk]
  rfl
theorem PO.grown {v':Value} {l:List Int} (h:PO w0 w la lb C sa sb v o) (r:w'.ownsRow 0 3 1 v' (o.length+l.length) (o.map intV++l.map intV)) (g:w.grownBy w' v.ownBlock) (hv:v'.ownBlock=v.ownBlock∨∃ g,v'.ownBlock=some g∧w.heap.size≤g):PO w0 w' la lb C sa sb v' (o++l):=by
 obtain⟨⟨ma,ρa,Va,mb,ρb,Vb,t,j,k⟩,own,low,bel,row⟩:=h
 have hla:la<w.heap.size:=lt_of_at t.a.at_
 have hlb:lb<w.heap.size:=lt_of_at t.b.at_
 have nl:some la≠v.ownBlock:=fun e=>(own la e.symm).2.1 rfl
 have nb:some lb≠v.ownBlock:=fun e=>(own lb e.symm).2.2 rfl
 have na:∀ q,ρa q≠.junk->some q≠v.ownBlock:=fun q hq e=>hq (k q e.symm).1
 have nbb:∀ q,ρb q≠.junk->some q≠v.ownBlock:=fun q hq e=>hq (k q e.symm).2
 have old:∀ q,q<w0.heap.size->some q≠v.ownBlock:=fun q hq e=>by have:=(own q e.symm).1;omega
 refine⟨⟨ma,clrR ρa w.heap.size,Va,mb,clrR ρb w.heap.size,Vb,⟨?_,?_,fun q=>?_,clr_junk t.ja,clr_junk t.jb⟩,fun q hq=>⟨clr_junk (j q hq).1,clr_junk (j q hq).2⟩,fun q hq=>?_⟩,fun q hq=>?_,low,?_,?_⟩
 ·exact t.a.kept g.os g.tape g.output g.size (fun q hq hn=>g.block q hq (na q hn)) (g.block la hla nl)
 ·exact t.b.kept g.os g.tape g.output g.size (fun q hq hn=>g.block q hq (nbb q hn)) (g.block lb hlb nb)
 ·rcases t.sep q with x|x
  ·exact .inl (clr_junk x)
  ·exact .inr (clr_junk x)
 ·rcases hv with e|⟨q',e,hq'⟩
  ·rw [e] at hq
   exact⟨clr_junk (k q hq).1,clr_junk (k q hq).2⟩
  ·rw [e] at hq
   injection hq with hq
   subst hq
   exact⟨clr_new hq',clr_new hq'⟩
 ·rcases hv with e|⟨q',e,hq'⟩
  ·rw [e] at hq
   exact own q hq
  ·rw [e] at hq
   injection hq with hq
   subst hq
   exact⟨Nat.le_trans bel.size hq',by omega,by omega⟩
 ·exact⟨g.os.trans bel.os,g.tape.trans bel.tape,g.output.trans bel.output,Nat.le_trans bel.size g.size,fun q hq=>(g.block q (Nat.lt_of_lt_of_le hq bel.size) (old q hq)).trans (bel.block q hq)⟩
 ·rw [List.length_append,List.map_append]
  exact r
theorem PO.drewN (h:PO w0 w la lb C sa sb v o) (n:Nat):PO w0 (w.drewN n) la lb C sa sb v o:=by
 obtain⟨⟨ma,ρa,Va,mb,ρb,Vb,t,j,k⟩,own,low,bel,row⟩:=h
 have b:Below w.heap.size w (w.drewN n):=⟨rfl,rfl,rfl,Nat.le_refl _,fun _ _=>rfl⟩
 exact⟨⟨ma,_,Va,mb,_,Vb,t.frame b,fun q hq=>⟨clr_junk (j q hq).1,clr_junk (j q hq).2⟩,fun q hq=>⟨clr_junk (k q hq).1,clr_junk (k q hq).2⟩⟩,own,low,⟨bel.os,bel.tape,bel.output,bel.size,bel.block⟩,ownsRow_frame row (fun _ _=>rfl)⟩
theorem PO.new {w1:World} {ma mb:Nat} {ρa ρb:Nat->MR} {Va Vb:MV} (a:Shut w1 la ma ρa C Va sa) (la0:w0.heap.size≤la) (b1:Below w0.heap.size w0 w1) (ja:∀ g,g<w0.heap.size->ρa g=.junk)
  (b:Shut w lb mb ρb C Vb sb) (lb0:w1.heap.size≤lb) (b2:Below w1.heap.size w1 w) (jb:∀ g,g<w1.heap.size->ρb g=.junk):PO w0 w la lb C sa sb (.slice none 0 0) [] :=
 ⟨⟨ma,_,Va,mb,ρb,Vb,Twin.load a b2 b lb0 jb,fun g hg=>⟨clr_junk (ja g hg),jb g (Nat.lt_of_lt_of_le hg b1.size)⟩,fun g hg=>(by cases hg)⟩,fun g hg=>(by cases hg),⟨la0,Nat.le_trans b1.size lb0⟩,
  ⟨b2.os.trans b1.os,b2.tape.trans b1.tape,b2.output.trans b1.output,Nat.le_trans b1.size b2.size,fun g hg=>(b2.block g (Nat.lt_of_lt_of_le hg b1.size)).trans (b1.block g hg)⟩,World.ownsRow_nil w 0 _ 1⟩
variable {T : List PNode} {n r r1 r2 k wk N F : Nat}
theorem PO.feed (bm:BagM T C n r r1 r2 k wk) (h:PO w0 w la lb C sa sb v o) (m:Mch T C n r r1 r2 k wk N F sb) (hN:N≤400000000) (hF:F≤17600000000000) (x:Int) :
  Calls Tryz.prog 27 #[.pointer (some ⟨lb,0,none⟩),.int .i64 x] w fun e w'=>e=.returned (.tuple #[])∧PO w0 w' la lb C sa (sb.send 1 x).2 v o:=by
 obtain⟨t,hb,_⟩:=m
 exact h.call (fun mb ρ V s=>sFeed_both bm.ok bm.n3 hb hN hF x w s)
theorem Mch.outs (h:Mch T C n r r1 r2 k wk N F sb):sb.out.length≤1000 * N:=by
 obtain⟨t,hb,_⟩:=h
 rw [hb.sim.out]
 exact hb.bd.out
end
structure PcI (w0 w:World) (la lb:Nat) (T:List PNode) (C:CM) (n r r1 r2 kk wk F:Nat) (k:Nat) (na:Int) (sa:MS) (i:Nat) (m other:Int) (v:Value):Prop where
 ex:∃ (sb:MS) (o:List Int) (N:Nat),PO w0 w la lb C sa sb v o∧PieceI false C.code C.br k na sa m sb o∧Mch T C n r r1 r2 kk wk N F sb∧Rests C.code sb∧sb.out=[]∧(N:Int)≤m∧0≤m∧m≤k∧((i=0∧other=1)∨(0<i∧other=sb.stands))∧(k<i->(i:Int) - k≤m∨other≠1)
 outs:sa.out.length≤300000
section
variable {w0 w : World} {la lb : Nat} {T : List PNode} {C : CM} {n r r1 r2 kk wk F k : Nat} {na : Int} {sa : MS} {i : Nat} {m : Int} {v : Value}
theorem PcI.round (bm:BagM T C n r r1 r2 kk wk) (h:PcI w0 w la lb T C n r r1 r2 kk wk F k na sa i m 1 v) (hF:F≤17600000000000) (hk:k<300) (hmk:m<k) (c:Int) (hc0:0≤c) (hc:k≤i->c=1) :
  ∃ (d other:Int) (sb:MS) (o:List Int),0≤d∧d≤300∧o.length+sb.out.length≤1000000 ∧
   (Calls Tryz.prog 25 #[.pointer (some ⟨lb,0,none⟩),.int .i64 (min c ((k:Int) - m))] w fun e w1=>e=.returned (.tuple #[.int .i64 d,.int .i64 other])∧PO w0 w1 la lb C sa sb v o) ∧
   ∀ w3 v',PO w0 w3 la lb C sa { sb with out:=[] } v' (o++sb.out)->PcI w0 w3 la lb T C n r r1 r2 kk wk F k na sa (i+1) (m+d) other v':=by
 obtain⟨sb,o,N,po,pc,mc,rs,ho,hN,hm0,hm1,hot,hcnt⟩:=h.ex
 obtain⟨st,hst,s1,s2,s3⟩:∃ st:Int,min c ((k:Int) - m)=st∧st≤k - m∧0≤st∧(c=1->st=1):=⟨_,rfl,by omega,by omega,by omega⟩
 rw [hst]
 obtain⟨d,sb',N',f,hrun,mc',d0,d1,hN',rs',hless,run⟩:=mc.run bm hF (steps:=st) (by omega) (by omega)
 have pc':=piece_run pc (by omega) hrun
 have ol:=mc'.outs
 have hol:o.length≤300000:=by
  obtain⟨s',_,e⟩:=pc
  have:o.length≤sa.out.length:=by rw [e];unfold addO;simp
  exact Nat.le_trans this (by
   have:=h.outs
   exact this)
 refine⟨d,sb'.stands,sb',o,d0,by omega,by omega,po.call (fun mb ρ V s=>run lb mb ρ V w s),fun w3 v' p3=>⟨⟨{ sb' with out:=[] },o++sb'.out,N',p3,piece_out pc',mc'.out,rests_out rs' [],rfl,by omega,by omega,by omega,.inr ⟨by omega,rfl⟩,fun hi=>?_⟩,h.outs⟩⟩
 have hc1:=hc (by omega)
 subst hc1
 rcases (show d<1∨1≤d by omega) with hd|hd
 ·right
  have:=hless (by omega)
  omega
 ·rcases Nat.lt_or_ge k i with hki|hki
  ·rcases hcnt hki with x|x
   ·left;omega
   ·exact absurd rfl x
  ·left;omega
theorem PcI.done {other:Int} (bm:BagM T C n r r1 r2 kk wk) (h:PcI w0 w la lb T C n r r1 r2 kk wk F k na sa i m other v) (hF:F≤17600000000000) (hk:k<300) (hx:2 * (k:Int)+2≤i∨(k:Int)≤m∨(other≠1∧i≠0)) :
  na=m∧m≤k∧∃ (sb:MS) (o:List Int) (S:Int),(S=1∨S=3∨S=4)∧sb.stands=S∧sa.stands=S∧sa.time=sb.time∧sa.out=o∧o.length≤300000∧(∃ vb cc,v=.slice vb o.length cc) ∧
   Calls Tryz.prog 25 #[.pointer (some ⟨lb,0,none⟩),.int .i64 0] w fun e w1=>e=.returned (.tuple #[.int .i64 0,.int .i64 S])∧PO w0 w1 la lb C sa sb v o:=by
 have hal:=h.outs
 obtain⟨sb,o,N,po,pc,mc,rs,ho,hN,hm0,hm1,hot,hcnt⟩:=h.ex
 have st:=mc.stands
 obtain⟨e1,e2⟩:=piece_end pc rs ho (by
  rcases hx with x|x|x
  ·rcases hot with y|y
   ·omega
   ·rcases hcnt (by omega) with z|z
    ·omega
    ·right;omega
  ·left;omega
  ·right
   rcases hot with y|y
   ·omega
   ·omega)
 obtain⟨d,sb',N',f,hrun,mc',d0,d1,hN',rs',hless,run⟩:=mc.run bm hF (steps:=0) (by omega) (by omega)
 have hz:=rests_zero rs hrun
 injection hz with hz1 hz2
 subst hz1;subst hz2
 refine⟨e1,hm1,sb',o,sb'.stands,st,rfl,by rw [e2];rfl,by rw [e2],by rw [e2],by rw [e2] at hal;exact hal,?_,po.call (fun mb ρ V s=>run lb mb ρ V w s)⟩
 rcases po.row.2 with ⟨e,h0⟩|⟨g,cap,cur,e,_⟩
 ·exact⟨none,0,by rw [e,h0]⟩
 ·exact⟨_,_,e⟩
end
theorem RowI.below {w w':World} {va:Option Addr} {A:List Int} (h:RowI w va A) (b:Below w.heap.size w w'):RowI w' va A:=by
 intro k hk
 obtain⟨g,off,e,hc⟩:=h k hk
 refine⟨g,off,e,?_⟩
 rw [<-hc]
 exact World.cell?_of_block (b.block g (cell_lt hc))
theorem RowI.at {w:World} {g off:Nat} {A:List Int} (h:RowI w (some ⟨g,off,none⟩) A) {k:Nat} (hk:k<A.length):w.cell? ⟨g,off+k,none⟩=some (.int .i64 (A.getD k 0)):=by
 obtain⟨g',off',e,hc⟩:=h k hk
 injection e with e
 injection e with e1 e2
 subst e1;subst e2
 exact hc
theorem fed_more (C:CM) (l:List Int) {j:Nat} (hj:j<l.length):fedS C (l.take (j+1))=((fedS C (l.take j)).send 1 (l.getD j 0)).2:=by
 have e:l.take (j+1)=l.take j++[l.getD j 0]:=by
  rw [List.take_add_one,List.getElem?_eq_getElem hj,getD_lt _ _ _ hj]
  rfl
 rw [e]
 unfold fedS
 rw [List.foldl_append]
 rfl
theorem rsOf_okP (zs:List Int):RsOk (rsOf zs):=by
 refine⟨by simp [rsOf];omega,?_⟩
 intro r hr
 unfold rsOf at hr
 obtain⟨z,_,rfl⟩:=List.mem_map.1 hr
 exact⟨pickG_lt _ _ (by decide),pickG_lt _ _ (by decide)⟩
end Go.Proofs.YtnhidaamfnjdjaaGreatDoor
