import Derived.Test.YtnhidaamfnjdjaaGreatDoorZRowK
import Derived.Test.YtnhidaamfnjdjaaGreatDoorZPieE
namespace Go.Proofs.YtnhidaamfnjdjaaGreatDoor
open Go.ChangeShapes Go.WideShapes Go.ChangeAt Go.WideMaps Go.WideElems Go.RowKit
theorem laidOut:laidOutB Tryz.prog=true:=by kernel_rfl
section
variable {H : Type} {enc : TypeId × Value → H}
theorem handed_sized {a:Assume} {C:Checked} {os:Os} {f:FuncId} {fn:Func} {s:ChangeSpec} {conds:List PathCond} {apart fresh handsOn again:Bool} {X:World->Array Value->Prop}
  (own:ownKnob C.prog.godebug=none) (started:os.Started) (noInit:C.prog.inits.idxOf? f=none) (hfn:C.prog.funcs[f]?=some fn)
  (witness:∃ (w:World) (tape:Tape) (i:Input),w.os=os∧(w.forCall tape i).Shaped C.prog∧i.vars=[]∧Input.okWide C.prog (w.forCall tape i) .any w.heap.size f i ∧
   ((s.pre enc C.prog fn conds apart (w.forCall tape i).memory i.args∧X (w.forCall tape i).memory i.args)∧sizedMet enc C.prog fn (OpenSpec.ofChange s) apart (w.forCall tape i).memory i.args)∧a.holds C.prog (lone (Frame.enter C.prog f i.args .normal) [] (w.forCall tape i)))
  (contract:∀ (W:World) (base:Nat) (args:Array Value) (ds gs:List (DataW H)) (before:List MemPlace),
   (∀ (j:Nat) t v,fn.params[j]?=some t->args[j]?=some v->Value.okWide C.prog W .any base t v) ->
   DataW.Whole enc C.prog fn.params.toList s.vars apart W args.toList ds gs before ->
   W.ShapedOpen C.prog ->
   (DataW.weightsEach C.prog (fn.params.toList++(OpenSpec.ofChange s).bare.plain.varTypes C.prog) (ds++gs)).all (·≤reachBytes)=true ->
   Calls C.prog f args W fun e W'=>∃ v,e=.returned v∧s.post enc C.prog fn apart fresh handsOn again W args v W') :
  ReturnsInHanded a C os f .any (fun w args=>(s.pre enc C.prog fn conds apart w args∧X w args)∧sizedMet enc C.prog fn (OpenSpec.ofChange s) apart w args) (s.post enc C.prog fn apart fresh handsOn again):=by
 refine returnsInHanded_of_calls own started noInit witness ?_
 intro w tape i _ hsh _ hok hpre _
 obtain⟨_,_,_,fn',hfn',_,_,_,_,hval⟩:=hok
 have e:fn'=fn:=Option.some.inj (hfn'.symm.trans hfn)
 subst e
 obtain⟨_,_,ds,gs,before,hw,hwt⟩:=hpre
 have hw':=DataW.Whole.of_heap (w':=w.forCall tape i) (by rfl) hw
 refine (contract (w.forCall tape i) w.heap.size i.args ds gs before hval hw' hsh hwt).mono fun e W' ⟨v,he,hp⟩=>?_
 subst he
 exact ChangeSpec.post_blind hp
theorem weigh_slice {P:Program} {t e:TypeId} (ht:P.underlying t=some (.slice e)) (el sp:List (DataW H)):(el.length+sp.length) * P.bytesOf e∈(DataW.slice el sp).weights P t:=by
 unfold DataW.weights
 rw [ht]
 simp
theorem weigh_cons (P:Program) (t:TypeId) (ts:List TypeId) (d:DataW H) (r:List (DataW H)):DataW.weightsEach P (t :: ts) (d :: r)=d.weights P t++DataW.weightsEach P ts r:=by
 rw [DataW.weightsEach]
theorem ints_arg {W:World} {fuel:Nat} {a0:Option Addr} {len cap:Nat} {d:DataW H} {p:List MemPlace} (hf:DataW.trod enc Tryz.prog W 0 (fun _=>true) true fuel 36 (Value.slice a0 len cap).cells.toList=some (d,p)) :
  ∃ zs:List Int,zs.length=len∧len≤9223372036854775807∧RowI W a0 zs∧(∀ z∈zs,(Lit.int .i64 z).wf=true)∧(len=0∨∃ el sp,d=.slice el sp∧len≤el.length+sp.length):=by
 have c3:Tryz.prog.cellsOf 3=1:=by kernel_rfl
 rcases open_ints Tryz.underlying36 Tryz.underlying3 c3 hf with ⟨hcs,hx⟩|⟨a,len',cap',zs,hcs,_,hl,hmx,hz,hx,hcell,hwz⟩
 ·simp [Value.cells] at hcs
  obtain⟨rfl,rfl,rfl⟩:=hcs
  exact⟨[],rfl,by decide,fun k hk=>by simp at hk,fun z hz=>by simp at hz,.inl rfl⟩
 ·simp [Value.cells] at hcs
  obtain⟨rfl,rfl,rfl⟩:=hcs
  simp only [if_true] at hz
  have hmx':cap≤9223372036854775807:=by unfold maxLen at hmx;omega
  by_cases hl0:len=0
  ·subst hl0
   exact⟨[],rfl,by decide,fun k hk=>by simp at hk,fun z hz=>by simp at hz,.inl rfl⟩
  ·obtain⟨b,off,rfl,hc2⟩:=ints_at hcell (by omega)
   rw [Prod.mk.injEq] at hx
   refine⟨zs.take len,by rw [List.length_take];omega,by omega,fun j hj=>⟨b,off,rfl,?_⟩,fun z hz'=>hwz z (List.mem_of_mem_take hz'),.inr ⟨_,_,hx.1,?_⟩⟩
   ·rw [List.length_take] at hj
    rw [hc2 j (by omega)]
    refine congrArg (fun z=>some (Value.int .i64 z)) ?_
    simp only [List.getD,List.getElem?_take]
    rw [if_pos (by omega)]
   ·simp [lits]
    omega
end
theorem RowI.one {w:World} {va:Option Addr} {A:List Int} (h:RowI w va A):∃ b off,(0<A.length->va=some ⟨b,off,none⟩)∧∀ j,j<A.length->w.cell? ⟨b,off+j,none⟩=some (.int .i64 (A.getD j 0)):=by
 by_cases h0:0<A.length
 ·obtain⟨b,off,rfl,_⟩:=h 0 h0
  exact⟨b,off,fun _=>rfl,fun j hj=>h.at hj⟩
 ·exact⟨0,0,fun h=>absurd h h0,fun j hj=>absurd (Nat.lt_of_le_of_lt (Nat.zero_le _) hj) h0⟩
set_option maxRecDepth 100000 in
theorem pieces_lifted (os:Os) (started:os.Started) (H:Type) (enc:TypeId×Value->H) :
  ReturnsInHanded {} Tryz.checked os 9 .any (fun w args=>(Rows.piecesSpec.pre enc Tryz.prog Tryz.f9 [] false w args∧laidMetH Tryz.prog Rows.piecesRow.laid w)∧sizedMet enc Tryz.prog Tryz.f9 (OpenSpec.ofChange Rows.piecesSpec) false w args)
   (Rows.piecesSpec.post enc Tryz.prog Tryz.f9 false true false false):=by
 refine handed_sized (C:=Tryz.checked) (X:=fun w _=>laidMetH Tryz.prog Rows.piecesRow.laid w) own started (by kernel_rfl) Tryz.func9
  (ChangeSpec.witness_shaped (enc:=enc) (C:=Tryz.checked) (os:=os) (X:=fun w _=>laidMetH Tryz.prog Rows.piecesRow.laid w) false (World.laidAll Tryz.prog os Rows.piecesRow.laid) #[.slice none 0 0,.slice none 0 0,.slice none 0 0,.int .i64 0] 8 (World.laidAll_os _ _ _)
   (World.shaped_of_ZipB (by kernel_rfl) (by kernel_rfl)) (by kernel_rfl) (by kernel_rfl) (by kernel_rfl)
   (by rw [MakeChecks.laidMetH_plain _ _ _ (by kernel_rfl)];exact laidMet_laidAll _ (by kernel_rfl) (by kernel_rfl))) ?_
 intro W base args ds gs before hval0 hW hsh0 hwt0
 have hsh:W.ShapedOpen Tryz.prog:=hsh0
 have hval:∀ (j:Nat) t v,Tryz.f9.params[j]?=some t->args[j]?=some v->Value.okWide Tryz.prog W .any base t v:=hval0
 have hwt:(DataW.weightsEach Tryz.prog (Tryz.f9.params.toList++[]) (ds++gs)).all (·≤reachBytes)=true:=hwt0
 have hW':=hW
 obtain⟨p,q,hA0,hV,rfl,hfz,hnd⟩:=hW
 have hA:DataW.TrodAll enc Tryz.prog W 0 (fun _=>true) true Tryz.f9.params.toList args.toList ds p:=hA0
 rw [Tryz.params9] at hA hval hwt
 obtain⟨v0,vs0,d0,ds0,p0,q0,hargs,rfl,rfl,h0,r0⟩:=trodAll_cons hA
 obtain⟨v1,vs1,d1,ds1,p1,q1,rfl,rfl,rfl,h1,r1⟩:=trodAll_cons r0
 obtain⟨v2,vs2,d2,ds2,p2,q2,rfl,rfl,rfl,h2,r2⟩:=trodAll_cons r1
 obtain⟨v3,vs3,d3,ds3,p3,q3,rfl,rfl,rfl,h3,r3⟩:=trodAll_cons r2
 obtain⟨rfl,rfl,rfl⟩:=trodAll_nil r3
 obtain rfl:args=#[v0,v1,v2,v3]:=by cases args;simp_all
 obtain⟨rfl,rfl⟩:=trodVars_none hV
 obtain⟨x3,rfl,rfl,rfl,w3⟩:=open_int Tryz.underlying3 (hval 3 3 v3 rfl rfl) h3
 clear hA0 hval0 hwt0
 simp only [List.append_nil] at hW' hwt
 obtain⟨m,hm⟩:=maxLen_cell hsh
 obtain⟨a0,n0,c0,rfl⟩:=okWide_slice Tryz.underlying36 (hval 0 36 v0 rfl rfl)
 obtain⟨a1,n1,c1,rfl⟩:=okWide_slice Tryz.underlying36 (hval 1 36 v1 rfl rfl)
 obtain⟨a2,n2,c2,rfl⟩:=okWide_slice Tryz.underlying36 (hval 2 36 v2 rfl rfl)
 have h0k:=h0
 have h1k:=h1
 have h2k:=h2
 obtain⟨f0,hf0⟩:=h0
 obtain⟨f1,hf1⟩:=h1
 obtain⟨f2,hf2⟩:=h2
 obtain⟨zs,rfl,z1,z2,z3,_⟩:=ints_arg hf0
 obtain⟨ns,rfl,y1,y2,y3,y4⟩:=ints_arg hf1
 obtain⟨ss,rfl,u1,u2,u3,u4⟩:=ints_arg hf2
 have b8:Tryz.prog.bytesOf 3=8:=by kernel_rfl
 rw [List.all_eq_true] at hwt
 have hmem:∀ x∈DataW.weightsEach Tryz.prog [36,36,36,3] [d0,d1,d2,.lit (.int .i64 x3)],x≤reachBytes:=fun x hx=>by simpa using hwt x (by simpa using hx)
 rw [weigh_cons,weigh_cons,weigh_cons] at hmem
 have hny:ns.length≤17600000000000:=by
  rcases y4 with h|⟨el,sp,rfl,h⟩
  ·omega
  ·have:=hmem _ (List.mem_append_right _ (List.mem_append_left _ (weigh_slice Tryz.underlying36 el sp)))
   rw [b8] at this
   unfold reachBytes at this
   omega
 have hnu:ss.length≤17600000000000:=by
  rcases u4 with h|⟨el,sp,rfl,h⟩
  ·omega
  ·have:=hmem _ (List.mem_append_right _ (List.mem_append_right _ (List.mem_append_left _ (weigh_slice Tryz.underlying36 el sp))))
   rw [b8] at this
   unfold reachBytes at this
   omega
 obtain⟨b,off,hoa,hcl⟩:=z2.one
 have hlt0:∀ x∈p0,x.block<W.heap.size:=fun x hx=>hW'.lt x (by simp [hx])
 have hlt1:∀ x∈p1,x.block<W.heap.size:=fun x hx=>hW'.lt x (by simp [hx])
 have hlt2:∀ x∈p2,x.block<W.heap.size:=fun x hx=>hW'.lt x (by simp [hx])
 refine (Pieces_any W m hm a0 b off c0 zs z1 hoa hcl (fun z hz=>wf_i64 (z3 z hz)) a1 c1 ns hny y2 a2 c2 ss hnu u2 (fun z hz=>wf_i64 (u3 z hz)) x3 (wf_i64 w3)).mono fun e W' ⟨he,hb⟩=>?_
 subst he
 refine⟨_,rfl,_,_,_,[],p0++(p1++(p2++([]++[]))),[],hW',trodAll_mk1 (shut_bool Tryz.underlying4 _),?_,rfl,hb.frame _,fun h=>by cases h⟩
 have tr:∀ {v d p} (hk:DataW.Trod enc Tryz.prog W 0 (fun _=>true) true 36 v d p) (hlt:∀ x∈p,x.block<W.heap.size),DataW.Trod enc Tryz.prog W' 0 (fun b=>decide (b<W.heap.size)) true 36 v d p:=fun hk hlt=>Below.trod laidOut (by kernel_rfl) (of_decide_eq_true (by kernel_rfl)) hk hb hlt
 exact trodAll_cons_mk (tr h0k hlt0) (trodAll_cons_mk (tr h1k hlt1) (trodAll_cons_mk (tr h2k hlt2) (trodAll_mk1 (shut_int Tryz.underlying3 w3))))
theorem pieces_holds:Rows.PiecesSaid :=
 OpenClaim.holds_of_wide 9 Tryz.f9 rfl rfl rfl rfl rfl rfl rfl ⟨rfl,rfl,rfl,rfl,rfl⟩ rfl rfl rfl rfl rfl (by kernel_rfl) Tryz.func9 (by kernel_rfl)
  (of_decide_eq_true (by kernel_rfl)) (by unfold Func.isWrapper;first|(rw [if_pos (by decide +kernel)];kernel_rfl)|(rw [if_neg (by decide +kernel)];exact⟨rfl,rfl⟩))
  (fun os started H enc _=>pieces_lifted os started H enc)
end Go.Proofs.YtnhidaamfnjdjaaGreatDoor
