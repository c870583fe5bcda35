import Derived.Test.YtnhidaamfnjdjaaGreatDoorZMadH
import Derived.Test.YtnhidaamfnjdjaaGreatDoorZMaeE
import Derived.Test.YtnhidaamfnjdjaaGreatDoorYTnC
namespace Go.Proofs.YtnhidaamfnjdjaaGreatDoor
open Go.RowKit Go.Maps
section
variable {T : List PNode} {C : CM} {n N F : Nat} {s : MS} {t : TS} {lb mb : Nat} {ρ : Nat → MR} {V : MV}
theorem Both.lensS (ok:TmOk T C.code n) (h:Both T C.code C.br n N F s t) (hN:N≤400000000):Lens s∧s.stack.length<900000000000:=by
 obtain⟨⟨st,i⟩,sim,b,_⟩:=h
 exact⟨(i.lens sim b (by omega) ok.n2).1,by have:=sim.stk;omega⟩
theorem Both.ch1 (h:Both T C.code C.br n N F s t) (n3:3≤n):∃ x,s.chans[1]?=some x∧s.ch 1=x:=by
 obtain⟨⟨st,i⟩,sim,_,_⟩:=h
 have hl:1<s.chans.length:=by rw [sim.chans,i.cl];omega
 refine⟨s.chans[1],List.getElem?_eq_getElem hl,?_⟩
 unfold MS.ch
 exact getD_lt s.chans 1 default hl
set_option maxRecDepth 20000 in
theorem mFeed_both (ok:TmOk T C.code n) (n3:3≤n) (hb:Both T C.code C.br n N F s t) (hN:N≤400000000) (hF:F≤17600000000000) (v:Int) (w:World) (h:MsAt w mb ρ C V s) :
  ∃ b,Calls Tryz.prog 59 #[.pointer (some ⟨mb,0,none⟩),.int .i64 1,.int .i64 v] w fun e w'=>e=.returned (.bool b)∧MsPost mb C ρ V w (s.send 1 v).2 w':=by
 obtain⟨hl,hsk⟩:=hb.lensS ok hN
 obtain⟨x,hx,e1⟩:=hb.ch1 n3
 obtain⟨⟨st,i⟩,sim,b,_⟩:=hb
 have hnl:=b.nums 1
 have e2:t.chn 1=x:=by rw [<-e1,sim.ch 1];rfl
 rw [e2] at hnl
 cases hr:x.rd with
 | none=>exact⟨false,msend_none (c:=1) hx hr v w h (by have:=hl.2.2.1;omega) (by omega)⟩
 | some p =>
  have rd:=i.rdOk (fun k=>(ok.inr.cd k).1) 1 (by decide) p (by rw [ch_chn];show (t.chn 1).rd=_;rw [e2];exact hr)
  obtain⟨r1,r2,r3,_⟩:=rd
  have k:=sim.pr p r1 (fun x=>x)
  obtain⟨l,l1,l2,_⟩:=k.opn r2
  have hps:p<s.procs.length:=by rw [sim.len];exact r1
  have ep:s.pr p=s.procs[p]:=getD_lt s.procs p default hps
  have hvS:s.vars.length=n:=by rw [sim.vars,i.vl]
  have hcS:s.chans.length=n:=by rw [sim.chans,i.cl]
  have hn2:=ok.n2
  refine⟨true,msend_some (c:=1) hx hr (List.getElem?_eq_getElem hps) (by rw [<-ep,k.told];exact r2) v ?_ w h (by have:=hl.2.2.1;omega) ?_ (by omega) (by have:=hl.1;omega) (by have:=hl.2.1;omega)⟩
  ·rw [<-ep,l2]
   intro br hbr
   obtain⟨kb,_,rfl⟩:=List.mem_map.1 hbr
   have h1:=ok.inr.cd kb.1
   have h2:=ok.inr.nd kb.1
   exact⟨⟨(T.getD kb.1 default).cd.toNat,by show (T.getD kb.1 default).cd=_;omega,by omega⟩,⟨(T.getD kb.1 default).nd.toNat,by show (T.getD kb.1 default).nd=_;omega,by omega⟩⟩
  ·rw [<-ep,l2,List.length_map]
   rw [l1,List.length_map] at r3
   omega
set_option maxRecDepth 20000 in
theorem sFeed_both (ok:TmOk T C.code n) (n3:3≤n) (hb:Both T C.code C.br n N F s t) (hN:N≤400000000) (hF:F≤17600000000000) (v:Int) (w:World) (h:Shut w lb mb ρ C V s) :
  Calls Tryz.prog 27 #[.pointer (some ⟨lb,0,none⟩),.int .i64 v] w fun e w'=>e=.returned (.tuple #[])∧∃ ρ' V',Shut w' lb mb ρ' C V' (s.send 1 v).2∧MsGo V V' ρ ρ' w w':=by
 have c0:w.cell? ⟨lb,0,none⟩=some (.pointer (some ⟨mb,0,none⟩)):=cell_at h.at_ 0
 obtain⟨b,m⟩:=mFeed_both ok n3 hb hN hF v w h.ms
 have M:=hide m
 have H:=hide h
 clear h hb ok m
 have inner:Calls Tryz.prog 40 #[.pointer (some ⟨mb,0,none⟩),.int .i64 v] w fun e w'=>e=.returned (.tuple #[])∧MsPost mb C ρ V w (s.send 1 v).2 w':=by
  go_enter Tryz.func40,Tryz.ntmps40
  go_wp2_with (go_at_call 59;refine M.out.mono ?_;rintro e w1 ⟨rfl,p1⟩;have P1:=hide p1;clear p1)
  go_end0
  exact⟨rfl,P1.out⟩
 have I:=hide inner
 clear inner M
 go_enter Tryz.func27,Tryz.ntmps27
 go_wp2_with (go_at_call 40;refine I.out.mono ?_;rintro e w1 ⟨rfl,p1⟩;have P1:=hide p1;clear p1)
 go_end0
 obtain⟨ρ',V',k,g⟩:=P1.out
 exact⟨rfl,ρ',V',H.out.go k g,g⟩
end
end Go.Proofs.YtnhidaamfnjdjaaGreatDoor
namespace Go.Proofs.YtnhidaamfnjdjaaGreatDoor
open Go.RowKit Go.Maps
def OnlyJ:MR->Prop:=fun r=>r=.junk
theorem MsIf.ofJ {w:World} {mb:Nat} {ρ:Nat->MR} {C:CM} {V:MV} {s:MS} (h:MsIf OnlyJ w mb ρ C V s):MsAt w mb ρ C V s :=
 ⟨fun _=>h.blk (by unfold OnlyJ;simp),h.rb,fun _=>h.code (by unfold OnlyJ;simp),fun _=>h.brs (by unfold OnlyJ;simp),fun _=>h.vars (by unfold OnlyJ;simp),fun _=>h.chans (by unfold OnlyJ;simp),fun _=>h.stack (by unfold OnlyJ;simp),fun _=>h.urg (by unfold OnlyJ;simp),fun _=>h.oth (by unfold OnlyJ;simp),fun _=>h.slp (by unfold OnlyJ;simp),fun _=>h.out (by unfold OnlyJ;simp),fun i p hp _=>h.proc i p hp (by unfold OnlyJ;simp),fun i p hp _=>h.opn i p hp (by unfold OnlyJ;simp),fun c x hx _=>h.num c x hx (by unfold OnlyJ;simp),h.lens⟩
def clrR (ρ:Nat->MR) (N:Nat):Nat->MR:=fun g=>if g<N then ρ g else .junk
theorem Shut.kept {w w':World} {lb mb:Nat} {ρ:Nat->MR} {C:CM} {V:MV} {s:MS} (h:Shut w lb mb ρ C V s) (hos:w'.os=w.os) (ht:w'.tape=w.tape) (ho:w'.output=w.output) (hs:w.heap.size≤w'.heap.size) (hb:∀ g,g<w.heap.size->ρ g≠.junk->w'.heap[g]?=w.heap[g]?) (hl:w'.heap[lb]?=w.heap[lb]?):Shut w' lb mb (clrR ρ w.heap.size) C V s where
 at_:=hl.trans h.at_
 junk:=by
  unfold clrR
  split
  ·exact h.junk
  ·rfl
 ms:=by
  have f:MsFr OnlyJ ρ (clrR ρ w.heap.size) w w':=⟨hos,ht,ho,hs,fun g hg hA=>⟨hb g hg hA,by unfold clrR;rw [if_pos hg]⟩⟩
  exact (MsIf.keep h.ms f (by unfold clrR;rw [if_pos h.ms.rb.2];exact h.ms.rb.1)).ofJ
structure Twin (w:World) (la ma:Nat) (ρa:Nat->MR) (Ca:CM) (Va:MV) (sa:MS) (lb mb:Nat) (ρb:Nat->MR) (Cb:CM) (Vb:MV) (sb:MS):Prop where
 a:Shut w la ma ρa Ca Va sa
 b:Shut w lb mb ρb Cb Vb sb
 sep:∀ g,ρa g=.junk∨ρb g=.junk
 ja:ρb la=.junk
 jb:ρa lb=.junk
section
variable {w w' : World} {la ma lb mb : Nat} {ρa ρb ρb' : Nat → MR} {Ca Cb : CM} {Va Vb Vb' : MV} {sa sb sb' : MS}
theorem Twin.swap (h:Twin w la ma ρa Ca Va sa lb mb ρb Cb Vb sb):Twin w lb mb ρb Cb Vb sb la ma ρa Ca Va sa:=⟨h.b,h.a,fun g=>(h.sep g).symm,h.jb,h.ja⟩
theorem Twin.right (h:Twin w la ma ρa Ca Va sa lb mb ρb Cb Vb sb) (k:Shut w' lb mb ρb' Cb Vb' sb') (g:MsGo Vb Vb' ρb ρb' w w'):Twin w' la ma (clrR ρa w.heap.size) Ca Va sa lb mb ρb' Cb Vb' sb':=by
 have hla:la<w.heap.size:=lt_of_at h.a.at_
 have hlb:lb<w.heap.size:=lt_of_at h.b.at_
 refine⟨?_,k,fun q=>?_,?_,?_⟩
 ·refine h.a.kept g.fr.os g.fr.tape g.fr.output g.fr.size (fun q hq hn=>?_) (g.fr.block la hla (by rw [h.ja];simp)).1
  have:ρb q=.junk:=(h.sep q).resolve_left hn
  exact (g.fr.block q hq (by rw [this];simp)).1
 ·unfold clrR
  by_cases hq:q<w.heap.size
  ·rw [if_pos hq]
   rcases h.sep q with x|x
   ·exact .inl x
   ·exact .inr ((g.fr.block q hq (by rw [x];simp)).2.trans x)
  ·rw [if_neg hq];exact .inl rfl
 ·exact (g.fr.block la hla (by rw [h.ja];simp)).2.trans h.ja
 ·unfold clrR
  rw [if_pos hlb]
  exact h.jb
theorem Twin.load (h:Shut w la ma ρa Ca Va sa) (hb:Below w.heap.size w w') (k:Shut w' lb mb ρb Cb Vb sb) (hl:w.heap.size≤lb) (hz:∀ g,g<w.heap.size->ρb g=.junk):Twin w' la ma (clrR ρa w.heap.size) Ca Va sa lb mb ρb Cb Vb sb:=by
 have hla:la<w.heap.size:=lt_of_at h.at_
 refine⟨h.kept hb.os hb.tape hb.output hb.size (fun q hq _=>hb.block q hq) (hb.block la hla),k,fun q=>?_,hz la hla,?_⟩
 ·unfold clrR
  by_cases hq:q<w.heap.size
  ·exact .inr (hz q hq)
  ·rw [if_neg hq];exact .inl rfl
 ·unfold clrR
  rw [if_neg (by omega)]
theorem Twin.frame (h:Twin w la ma ρa Ca Va sa lb mb ρb Cb Vb sb) (hb:Below w.heap.size w w'):Twin w' la ma (clrR ρa w.heap.size) Ca Va sa lb mb (clrR ρb w.heap.size) Cb Vb sb:=by
 have hla:la<w.heap.size:=lt_of_at h.a.at_
 have hlb:lb<w.heap.size:=lt_of_at h.b.at_
 refine⟨h.a.kept hb.os hb.tape hb.output hb.size (fun q hq _=>hb.block q hq) (hb.block la hla),h.b.kept hb.os hb.tape hb.output hb.size (fun q hq _=>hb.block q hq) (hb.block lb hlb),fun q=>?_,?_,?_⟩
 ·unfold clrR
  by_cases hq:q<w.heap.size
  ·rw [if_pos hq,if_pos hq];exact h.sep q
  ·rw [if_neg hq];exact .inl rfl
 ·unfold clrR;rw [if_pos hla];exact h.ja
 ·unfold clrR;rw [if_pos hlb];exact h.jb
end
end Go.Proofs.YtnhidaamfnjdjaaGreatDoor
