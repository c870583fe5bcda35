import Derived.Test.YtnhidaamfnjdjaaGreatDoorZRowK
import Derived.Test.YtnhidaamfnjdjaaGreatDoorYRgD
import Derived.JoinedCond
namespace Go.Proofs.YtnhidaamfnjdjaaGreatDoor
open Go.ChangeShapes Go.WideShapes Go.ChangeAt Go.WideMaps Go.WideElems Go.RowKit
theorem laidOut:laidOutB Tryz.prog=true:=by kernel_rfl
section
variable {H : Type} {enc : TypeId × Value → H}
theorem handed_cond {a:Assume} {C:Checked} {os:Os} {f:FuncId} {fn:Func} {s:OpenSpec} {k:(H:Type)->List (DataW H)->Bool} (hk:s.cond=some k) {F:Stop.Interp} {conds:List PathCond} {apart fresh handsOn again:Bool} {X:World->Array Value->Prop}
  (own:ownKnob C.prog.godebug=none) (started:os.Started) (noInit:C.prog.inits.idxOf? f=none) (hfn:C.prog.funcs[f]?=some fn)
  (witness:∃ (w:World) (tape:Tape) (i:Input),w.os=os∧(w.forCall tape i).Shaped C.prog∧i.vars=[]∧Input.okWide C.prog (w.forCall tape i) .any w.heap.size f i ∧
   ((s.pre enc C.prog fn conds apart (w.forCall tape i).memory i.args∧X (w.forCall tape i).memory i.args)∧sizedMet enc C.prog fn s apart (w.forCall tape i).memory i.args)∧a.holds C.prog (lone (Frame.enter C.prog f i.args .normal) [] (w.forCall tape i)))
  (contract:∀ (W:World) (base:Nat) (args:Array Value) (ds gs:List (DataW H)) (before:List MemPlace),
   (∀ (j:Nat) t v,fn.params[j]?=some t->args[j]?=some v->Value.okWide C.prog W .any base t v) ->
   DataW.Whole enc C.prog fn.params.toList s.vars apart W args.toList ds gs before ->
   W.ShapedOpen C.prog->k H (ds++gs)=true ->
   Calls C.prog f args W fun e W'=>∃ v,e=.returned v∧(s.at F).post enc C.prog fn apart fresh handsOn again W args v W') :
  ReturnsInHanded a C os f .any (fun w args=>(s.pre enc C.prog fn conds apart w args∧X w args)∧sizedMet enc C.prog fn s apart w args) ((s.at F).post enc C.prog fn apart fresh handsOn again):=by
 refine returnsInHanded_of_calls own started noInit witness ?_
 intro w tape i _ hsh _ hok hpre _
 obtain⟨_,_,_,fn',hfn',_,_,_,_,hval⟩:=hok
 have e:fn'=fn:=Option.some.inj (hfn'.symm.trans hfn)
 subst e
 obtain⟨ds,gs,before,hw,_,hkk⟩:=(OpenSpec.pre_some hk conds apart _ _).1 hpre.1.1
 have hw':=DataW.Whole.of_heap (w':=w.forCall tape i) (by rfl) hw
 refine (contract (w.forCall tape i) w.heap.size i.args ds gs before hval hw' hsh hkk).mono fun e W' ⟨v,he,hp⟩=>?_
 subst he
 exact ChangeSpec.post_blind hp
theorem witness_cond {C:Checked} {os:Os} {f:FuncId} {fn:Func} {s:OpenSpec} {k:(H:Type)->List (DataW H)->Bool} (hk:s.cond=some k) {conds:List PathCond} {apart:Bool} {X:World->Array Value->Prop} (modest:Bool) (w0:World) (args:Array Value) (fuel:Nat) (hos:w0.os=os)
  (hsh:(w0.forCall (fun _ _=>0) ⟨#[],args,[]⟩).Shaped C.prog)
  (hok:Input.okWideB C.prog (w0.forCall (fun _ _=>0) ⟨#[],args,[]⟩) f ⟨#[],args,[]⟩=true)
  {x:List (DataW H)×List (DataW H)×List MemPlace} (hw:DataW.whole enc C.prog (w0.forCall (fun _ _=>0) ⟨#[],args,[]⟩).memory fn.params.toList s.vars apart args.toList fuel=some x)
  (hconds:conds.all (PathCond.test C.prog ⟨fn.params.toList,x.1,s.bare.plain.varTypes C.prog,x.2.1⟩)=true) (hkk:k H (x.1++x.2.1)=true)
  (hsz:s.bare.sizedB enc C.prog fn apart (w0.forCall (fun _ _=>0) ⟨#[],args,[]⟩).memory args fuel=true)
  (hx:X (w0.forCall (fun _ _=>0) ⟨#[],args,[]⟩).memory args) :
  ∃ (w:World) (tape:Tape) (i:Input),w.os=os∧(w.forCall tape i).Shaped C.prog∧i.vars=[]∧Input.okWide C.prog (w.forCall tape i) .any w.heap.size f i ∧
   ((s.pre enc C.prog fn conds apart (w.forCall tape i).memory i.args∧X (w.forCall tape i).memory i.args)∧sizedMet enc C.prog fn s apart (w.forCall tape i).memory i.args)∧({ modest:=modest }:Assume).holds C.prog (lone (Frame.enter C.prog f i.args .normal) [] (w.forCall tape i)) :=
 ⟨w0,fun _ _=>0,⟨#[],args,[]⟩,hos,hsh,(Input.okWide_of_okWideB (base:=0) hok).1,(Input.okWide_of_okWideB hok).2,⟨⟨(OpenSpec.pre_some hk conds apart _ _).2 ⟨x.1,x.2.1,x.2.2,DataW.Whole_of_whole hw,hconds,hkk⟩,hx⟩,sizedMet_of_sizedB hsz⟩,by
  simp only [Assume.holds]
  exact⟨by simp,by simp,fun _=>Modest.zero,by simp,by simp⟩⟩
theorem bulk_pos (d:DataW H):1≤Rows.uptoBulk d:=by
 cases d with
 | lit l=>cases l <;> simp [Rows.uptoBulk]
 | _=>simp [Rows.uptoBulk]
theorem bulk_len:∀ l:List (DataW H),l.length≤Rows.uptoBulkAll l
 | []=>Nat.zero_le _
 | d :: r=>by
  have h1:=bulk_pos d
  have h2:=bulk_len r
  simp only [Rows.uptoBulkAll,List.length_cons]
  omega
theorem ints_arg {W:World} {fuel:Nat} {a0:Option Addr} {len cap:Nat} {d:DataW H} {p:List MemPlace} (hf:DataW.trod enc Tryz.prog W 0 (fun _=>true) true fuel 36 (Value.slice a0 len cap).cells.toList=some (d,p)) :
  ∃ zs:List Int,zs.length=len∧len≤9223372036854775807∧RowI W a0 zs∧(∀ z∈zs,(Lit.int .i64 z).wf=true)∧(len=0∨∃ el sp,d=.slice el sp∧len≤el.length+sp.length):=by
 have c3:Tryz.prog.cellsOf 3=1:=by kernel_rfl
 rcases open_ints Tryz.underlying36 Tryz.underlying3 c3 hf with ⟨hcs,hx⟩|⟨a,len',cap',zs,hcs,_,hl,hmx,hz,hx,hcell,hwz⟩
 ·simp [Value.cells] at hcs
  obtain⟨rfl,rfl,rfl⟩:=hcs
  exact⟨[],rfl,by decide,fun k hk=>by simp at hk,fun z hz=>by simp at hz,.inl rfl⟩
 ·simp [Value.cells] at hcs
  obtain⟨rfl,rfl,rfl⟩:=hcs
  simp only [if_true] at hz
  have hmx':cap≤9223372036854775807:=by unfold maxLen at hmx;omega
  by_cases hl0:len=0
  ·subst hl0
   exact⟨[],rfl,by decide,fun k hk=>by simp at hk,fun z hz=>by simp at hz,.inl rfl⟩
  ·obtain⟨b,off,rfl,hc2⟩:=ints_at hcell (by omega)
   rw [Prod.mk.injEq] at hx
   refine⟨zs.take len,by rw [List.length_take];omega,by omega,fun j hj=>⟨b,off,rfl,?_⟩,fun z hz'=>hwz z (List.mem_of_mem_take hz'),.inr ⟨_,_,hx.1,?_⟩⟩
   ·rw [List.length_take] at hj
    rw [hc2 j (by omega)]
    refine congrArg (fun z=>some (Value.int .i64 z)) ?_
    simp only [List.getD,List.getElem?_take]
    rw [if_pos (by omega)]
   ·simp [lits]
    omega
end
set_option maxRecDepth 100000 in
theorem row_lifted (os:Os) (started:os.Started) (H:Type) (enc:TypeId×Value->H) (F:Stop.Interp) :
  ReturnsInHanded {} Tryz.checked os 10 .any (fun w args=>((Rows.OpenSpec.upto Rows.rowSpec).pre enc Tryz.prog Tryz.f10 [] false w args∧laidMetH Tryz.prog Rows.rowUptoRow.laid w)∧sizedMet enc Tryz.prog Tryz.f10 (Rows.OpenSpec.upto Rows.rowSpec) false w args)
   (((Rows.OpenSpec.upto Rows.rowSpec).at F).post enc Tryz.prog Tryz.f10 false true false false):=by
 refine handed_cond (C:=Tryz.checked) (k:=Rows.uptoSmall) rfl (X:=fun w _=>laidMetH Tryz.prog Rows.rowUptoRow.laid w) own started (by kernel_rfl) Tryz.func10
  (witness_cond (enc:=enc) (C:=Tryz.checked) (os:=os) (k:=Rows.uptoSmall) rfl (X:=fun w _=>laidMetH Tryz.prog Rows.rowUptoRow.laid w) false (World.laidAll Tryz.prog os Rows.rowUptoRow.laid) #[.int .i64 0,.slice none 0 0,.slice none 0 0] 8 (World.laidAll_os _ _ _)
   (World.shaped_of_ZipB (by kernel_rfl) (by kernel_rfl)) (by kernel_rfl) (x:=([.lit (.int .i64 0),.nil,.nil],[],[])) (by kernel_rfl) (by kernel_rfl) (by kernel_rfl) (by kernel_rfl)
   (by rw [MakeChecks.laidMetH_plain _ _ _ (by kernel_rfl)];exact laidMet_laidAll _ (by kernel_rfl) (by kernel_rfl))) ?_
 intro W base args ds gs before hval0 hW hsh0 hkk
 have hsh:W.ShapedOpen Tryz.prog:=hsh0
 have hval:∀ (j:Nat) t v,Tryz.f10.params[j]?=some t->args[j]?=some v->Value.okWide Tryz.prog W .any base t v:=hval0
 have hW':=hW
 obtain⟨p,q,hA0,hV,rfl,hfz,hnd⟩:=hW
 have hA:DataW.TrodAll enc Tryz.prog W 0 (fun _=>true) true Tryz.f10.params.toList args.toList ds p:=hA0
 rw [Tryz.params10] at hA hval
 obtain⟨v0,vs0,d0,ds0,p0,q0,hargs,rfl,rfl,h0,r0⟩:=trodAll_cons hA
 obtain⟨v1,vs1,d1,ds1,p1,q1,rfl,rfl,rfl,h1,r1⟩:=trodAll_cons r0
 obtain⟨v2,vs2,d2,ds2,p2,q2,rfl,rfl,rfl,h2,r2⟩:=trodAll_cons r1
 obtain⟨rfl,rfl,rfl⟩:=trodAll_nil r2
 obtain rfl:args=#[v0,v1,v2]:=by cases args;simp_all
 obtain⟨rfl,rfl⟩:=trodVars_none hV
 obtain⟨x0,rfl,rfl,rfl,w0⟩:=open_int Tryz.underlying3 (hval 0 3 v0 rfl rfl) h0
 clear hA0 hval0
 simp only [List.append_nil] at hW' hkk
 obtain⟨m,hm⟩:=maxLen_cell hsh
 obtain⟨a1,n1,c1,rfl⟩:=okWide_slice Tryz.underlying36 (hval 1 36 v1 rfl rfl)
 obtain⟨a2,n2,c2,rfl⟩:=okWide_slice Tryz.underlying36 (hval 2 36 v2 rfl rfl)
 have h1k:=h1
 have h2k:=h2
 obtain⟨f1,hf1⟩:=h1
 obtain⟨f2,hf2⟩:=h2
 obtain⟨ns,rfl,y1,y2,y3,y4⟩:=ints_arg hf1
 obtain⟨ss,rfl,u1,u2,u3,u4⟩:=ints_arg hf2
 unfold Rows.uptoSmall at hkk
 rw [decide_eq_true_eq] at hkk
 simp only [Rows.uptoBulkAll] at hkk
 have hny:ns.length≤1048576:=by
  rcases y4 with h|⟨el,sp,rfl,h⟩
  ·omega
  ·have h1:=bulk_len el
   have h2:=bulk_len sp
   simp only [Rows.uptoBulk] at hkk
   omega
 have hnu:ss.length≤1048576:=by
  rcases u4 with h|⟨el,sp,rfl,h⟩
  ·omega
  ·have h1:=bulk_len el
   have h2:=bulk_len sp
   simp only [Rows.uptoBulk] at hkk
   omega
 have hlt1:∀ x∈p1,x.block<W.heap.size:=fun x hx=>hW'.lt x (by simp [hx])
 have hlt2:∀ x∈p2,x.block<W.heap.size:=fun x hx=>hW'.lt x (by simp [hx])
 refine (Row_any W m hm x0 (wf_i64 w0) a1 c1 ns hny y2 a2 c2 ss hnu u2 (fun z hz=>wf_i64 (u3 z hz))).mono fun e W' ⟨he,hb⟩=>?_
 subst he
 refine⟨_,rfl,_,_,_,[],[]++(p1++(p2++[])),[],hW',trodAll_mk1 (shut_bool Tryz.underlying4 _),?_,rfl,hb.frame _,fun h=>by cases h⟩
 have tr:∀ {v d p} (hk:DataW.Trod enc Tryz.prog W 0 (fun _=>true) true 36 v d p) (hlt:∀ x∈p,x.block<W.heap.size),DataW.Trod enc Tryz.prog W' 0 (fun b=>decide (b<W.heap.size)) true 36 v d p:=fun hk hlt=>Below.trod laidOut (by kernel_rfl) (of_decide_eq_true (by kernel_rfl)) hk hb hlt
 exact trodAll_cons_mk (shut_int Tryz.underlying3 w0) (trodAll_cons_mk (tr h1k hlt1) (by first|exact trodAll_mk1 (tr h2k hlt2)|(rw [List.append_nil];exact trodAll_mk1 (tr h2k hlt2))))
theorem row_holds:Rows.RowUptoSaid :=
 OpenClaim.holds_of_cond 10 Tryz.f10 rfl rfl rfl rfl rfl rfl rfl ⟨rfl,rfl,rfl,rfl,rfl⟩ rfl rfl rfl rfl rfl (by kernel_rfl) Tryz.func10 (by kernel_rfl)
  (of_decide_eq_true (by kernel_rfl)) (by unfold Func.isWrapper;first|(rw [if_pos (by decide +kernel)];kernel_rfl)|(rw [if_neg (by decide +kernel)];exact⟨rfl,rfl⟩))
  (fun os started H enc _ F=>row_lifted os started H enc F)
end Go.Proofs.YtnhidaamfnjdjaaGreatDoor
