import Derived.Test.YtnhidaamfnjdjaaGreatDoorZMadK
import Derived.Test.YtnhidaamfnjdjaaGreatDoorZTnD
import Derived.Test.YtnhidaamfnjdjaaGreatDoorZTnC
import Derived.Test.YtnhidaamfnjdjaaGreatDoorZTnJ
namespace Go.Proofs.YtnhidaamfnjdjaaGreatDoor
open Go.RowKit Go.Maps
structure BagM (T:List PNode) (C:CM) (n r r1 r2 k w:Nat):Prop where
 ok:TmOk T C.code n
 n3:3≤n
 cl:C.code.length≤1000000
 bl:C.br.length≤1000000
 kept:∀ steps:Int,TKept T n steps (LoopP r r1 r2 k w)
 start:Both T C.code C.br n 0 0 (newF C) (newT n r)
 rests:Rests C.code (newF C)
theorem bag_machine (rs:List (Nat×Nat)) (h:RsOk rs):∃ (T:List PNode) (C:CM) (n r r1 r2 k w:Nat),BagM T C n r r1 r2 k w∧∀ (b:ByteArray),b=⟨(textI (bagI rs)).toArray⟩->∀ (w:World) (m:Int),w.cell? ⟨0,0,none⟩=some (.int .i64 m) ->
  Calls Tryz.prog 24 #[.string b] w fun e w'=>∃ lb mb ρ V,e=.returned (.pointer (some ⟨lb,0,none⟩))∧w.heap.size≤lb∧Shut w' lb mb ρ C V (newF C)∧Below w.heap.size w w'∧∀ g,g<w.heap.size->ρ g=.junk:=by
 obtain⟨s,hp,hc,cm,r1,r2,k,w,lt⟩:=bag_right rs h
 have hl:=bag_len rs h
 obtain⟨n,E,tok⟩:=text_all (itText (itB rs)) s (by rw [hp])
 refine⟨(namedF s).2,makeF (namedF s).2 (rootOf s),n,rootOf s,r1,r2,k,w,⟨tok.tmOk,tok.n3,by have:=tok.code;omega,by have:=tok.br;omega,fun steps=>loop_kept tok.wf cm lt,start_both tok,?_⟩,?_⟩
 ·obtain⟨b,hb1,hseg,hb2⟩:=makeF_seg tok.wf (rootOf s) tok.root tok.rk
  have s1:=seg_below (seg_chan hseg lt.c0.1) (by rw [lt.c0.2];rfl)
  rw [lt.c0.2] at s1
  have s2:=seg_below (seg_chan s1 lt.c1.1) (by show ((namedF s).2.getD r1 default).kids.length=1;rw [lt.c1.2];rfl)
  have e2:((namedF s).2.getD ([r1].getD 0 0) default).kids=[r2]:=lt.c1.2
  rw [e2] at s2
  have s2:Seg (namedF s).2 (makeF (namedF s).2 (rootOf s)).code (makeF (namedF s).2 (rootOf s)).br (.node r2) 0 b:=s2
  have hK:=step_of s2 (by rw [lt.c2];decide)
  have hal:0<(makeF (namedF s).2 (rootOf s)).code.length:=(List.getElem?_eq_some_iff.1 hK).1
  refine .inr ⟨0,rfl,inB_of hal,rfl,?_⟩
  show ((makeF (namedF s).2 (rootOf s)).code.getD 0 (0,0)).1=0
  rw [List.getD,hK]
  rfl
 ·intro b hb w m hm
  rw [bag_textI] at hb
  subst hb
  exact loaded_ok (itText (itB rs)) w (by omega) m hm s (by rw [hp]) hc
end Go.Proofs.YtnhidaamfnjdjaaGreatDoor
namespace Go.Proofs.YtnhidaamfnjdjaaGreatDoor
open Go.RowKit Go.Maps
def Mch (T:List PNode) (C:CM) (n r r1 r2 k w N F:Nat) (s:MS):Prop:=∃ t,Both T C.code C.br n N F s t∧LoopP r r1 r2 k w t
section
variable {T : List PNode} {C : CM} {n r r1 r2 k w N F : Nat} {s : MS}
theorem Mch.start (bm:BagM T C n r r1 r2 k w):Mch T C n r r1 r2 k w 0 0 (newF C):=⟨_,bm.start,loop_new _⟩
theorem Mch.feed (bm:BagM T C n r r1 r2 k w) (h:Mch T C n r r1 r2 k w N F s) (v:Int):Mch T C n r r1 r2 k w N (F+1) (s.send 1 v).2:=by
 obtain⟨t,hb,hl⟩:=h
 obtain⟨st,inv⟩:=hb.inv
 exact⟨_,hb.feed bm.ok v,hl.feed inv v⟩
theorem Mch.out (h:Mch T C n r r1 r2 k w N F s):Mch T C n r r1 r2 k w N F { s with out:=[] }:=by
 obtain⟨t,hb,hl⟩:=h
 exact⟨_,hb.out [] (Nat.zero_le _),hl.out []⟩
theorem Mch.stands (h:Mch T C n r r1 r2 k w N F s):s.stands=1∨s.stands=3∨s.stands=4:=by
 obtain⟨t,hb,hl⟩:=h
 rw [stands_both hb.sim]
 exact hl.stands
def fedS (C:CM) (l:List Int):MS:=l.foldl (fun s v=>(s.send 1 v).2) (newF C)
theorem fed_is (C:CM):∀ (l:List Int) (cs:List PCh),(cs.getD 1 default).rd=none->∃ cs',l.foldl (fun s v=>(s.send 1 v).2) ({ newF C with chans:=cs }:MS)={ newF C with chans:=cs' }∧(cs'.getD 1 default).rd=none
 | [],cs,h=>⟨cs,rfl,h⟩
 | v :: l,cs,h=>by
  rw [List.foldl_cons]
  have e:(({ newF C with chans:=cs }:MS).send 1 v).2={ newF C with chans:=cs.set 1 { cs.getD 1 default with nums:=(cs.getD 1 default).nums++[v] } }:=by
   unfold MS.send
   have e1:({ newF C with chans:=cs }:MS).ch 1=cs.getD 1 default:=rfl
   rw [e1,h]
   rfl
  rw [e]
  refine fed_is C l _ ?_
  rw [List.getD,List.getElem?_set]
  split
  ·split
   ·exact h
   ·rfl
  ·rename_i x;exact absurd rfl x
theorem fed_shape (C:CM) (l:List Int):∃ cs',fedS C l={ newF C with chans:=cs' }:=by
 obtain⟨cs',e,_⟩:=fed_is C l (List.replicate C.room.toNat default) (by
  rcases Nat.lt_or_ge 1 C.room.toNat with x|x
  ·rw [getD_lt _ _ _ (by simpa using x)];simp;rfl
  ·rw [getD_ge _ _ _ (by simpa using x)];rfl)
 exact⟨cs',e⟩
theorem fed_rests (bm:BagM T C n r r1 r2 k w) (l:List Int):Rests C.code (fedS C l)∧(fedS C l).out=[]:=by
 obtain⟨cs',e⟩:=fed_shape C l
 rw [e]
 exact⟨bm.rests,rfl⟩
theorem fed_mch (bm:BagM T C n r r1 r2 k w):∀ (l:List Int),Mch T C n r r1 r2 k w 0 l.length (fedS C l):=by
 have gen:∀ (l:List Int) (s:MS) (F:Nat),Mch T C n r r1 r2 k w 0 F s->Mch T C n r r1 r2 k w 0 (F+l.length) (l.foldl (fun s v=>(s.send 1 v).2) s):=by
  intro l
  induction l with
  | nil=>intro s F h;exact h
  | cons v l ih =>
   intro s F h
   rw [List.foldl_cons,List.length_cons,show F+(l.length+1)=(F+1)+l.length by omega]
   exact ih _ _ (h.feed bm v)
 intro l
 have:=gen l _ 0 (Mch.start bm)
 rw [Nat.zero_add] at this
 exact this
theorem Mch.run (bm:BagM T C n r r1 r2 k w) (h:Mch T C n r r1 r2 k w N F s) (hF:F≤17600000000000) {steps:Int} (hst:(N:Int)+steps≤400000000) (hN:N≤400000000) :
  ∃ (d':Int) (s':MS) (N' f:Nat),runC false C.code C.br steps f 0 s=some (d',s')∧Mch T C n r r1 r2 k w N' F s'∧0≤d'∧(d'≤steps∨d'=0)∧(N':Int)≤N+d'∧Rests C.code s'∧(d'<steps->s'.stands=3∨s'.stands=4) ∧
   ∀ (lb mb:Nat) (ρ:Nat->MR) (V:MV) (w:World),Shut w lb mb ρ C V s->Calls Tryz.prog 25 #[.pointer (some ⟨lb,0,none⟩),.int .i64 steps] w fun e w'=>e=.returned (.tuple #[.int .i64 d',.int .i64 s'.stands])∧∃ ρ' V',Shut w' lb mb ρ' C V' s'∧MsGo V V' ρ ρ' w w':=by
 obtain⟨t,hb,hl⟩:=h
 obtain⟨d',s',t',N',⟨f,h1⟩,h2,h3,h4,h5,h6,h7⟩:=sRun_both bm.ok bm.n3 bm.cl bm.bl hb hF (bm.kept steps) hl hst hN
 have m':Mch T C n r r1 r2 k w N' F s':=⟨t',h2,h3⟩
 refine⟨d',s',N',f,h1,m',h4,h5,h6,run_rests f 0 s _ h1,fun hlt=>?_,h7⟩
 obtain⟨q1,q2⟩:=run_less f 0 s _ h1 hlt
 have hn:=stands_not q1 q2
 rcases m'.stands with x|x
 ·exact absurd x hn
 ·exact x
end
end Go.Proofs.YtnhidaamfnjdjaaGreatDoor
