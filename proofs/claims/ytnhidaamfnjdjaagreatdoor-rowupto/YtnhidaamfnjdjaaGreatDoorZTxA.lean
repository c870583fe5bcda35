import Derived.Test.YtnhidaamfnjdjaaGreatDoorZGoodA
import Derived.Test.YtnhidaamfnjdjaaGreatDoorZTmA
namespace Go.Proofs.YtnhidaamfnjdjaaGreatDoor
open Go.RowKit Go.Maps
theorem next_err (σ:RS):σ.next.errno=σ.errno:=rfl
theorem fail_err (σ:RS) (e:Int) (he:e≠0):(σ.fail e).errno≠0:=by
 unfold RS.fail
 dsimp only
 split
 ·exact he
 ·rename_i h;exact h
theorem need_err {σ:RS} (h:σ.errno≠0) (t:Bs):(σ.need t).errno≠0:=by
 unfold RS.need
 split
 ·exact h
 ·exact fail_err _ _ (by decide)
theorem name_err {σ:RS} (h:σ.errno≠0):σ.name.2.errno≠0:=by
 unfold RS.name
 split
 ·exact h
 ·exact fail_err _ _ (by decide)
def GoodE (p:PE×RS):Prop:=fullE p.1=true∨p.2.errno≠0
def KeepE (f:RS->PE×RS):Prop:=∀ σ:RS,σ.errno≠0->(f σ).2.errno≠0
theorem leaf_good (σ:RS):GoodE (leafF σ):=by
 unfold leafF
 split
 ·exact .inl rfl
 ·exact .inl rfl
theorem leaf_keep:KeepE leafF:=by
 intro σ h
 unfold leafF
 split
 ·exact h
 ·exact name_err h
theorem from_good {f:RS->PE×RS} (hf:∀ σ,GoodE (f σ)) (hk:KeepE f) {p:PE×RS} (hp:GoodE p):GoodE (fromF f p):=by
 unfold fromF
 split
 ·rcases hp with h|h
  ·rcases hf p.2.next with k|k
   ·exact .inl (by show (fullE p.1&&fullE _)=true;rw [h,k];rfl)
   ·exact .inr k
  ·exact .inr (hk _ h)
 ·exact hp
theorem from_keep {f:RS->PE×RS} (hk:KeepE f) {p:PE×RS} (hp:p.2.errno≠0):(fromF f p).2.errno≠0:=by
 unfold fromF
 split
 ·exact hk _ hp
 ·exact hp
theorem operand_keep:∀ n,KeepE (operandF n)
 | 0=>by
  intro σ h
  unfold operandF
  split
  ·exact fail_err _ _ (by decide)
  ·exact leaf_keep σ h
 | n+1=>by
  intro σ h
  unfold operandF
  split
  ·exact need_err (from_keep (operand_keep n) (operand_keep n _ (need_err (σ:={ σ with opn:=σ.opn+1 }) h _))) _
  ·exact leaf_keep σ h
theorem operand_good:∀ n σ,GoodE (operandF n σ)
 | 0,σ=>by
  unfold operandF
  split
  ·exact .inr (fail_err _ _ (by decide))
  ·exact leaf_good σ
 | n+1,σ=>by
  unfold operandF
  split
  ·unfold innerF
   dsimp only
   rcases from_good (operand_good n) (operand_keep n) (operand_good n (({ σ with opn:=σ.opn+1 }:RS).need [40])) with h|h
   ·exact .inl h
   ·exact .inr (need_err h _)
  ·exact leaf_good σ
theorem expr_good (n:Nat) (σ:RS):GoodE (exprF n σ):=from_good (operand_good n) (operand_keep n) (operand_good n σ)
def LNode (above kind:Int) (e:PE):Prop :=
 (above=11->kind=12∧fullE e=true)∧(above=13->kind=14∧(e=.nil∨fullE e=true)) ∧
 (above≠11->above≠13->procK kind∧((kind=3∨kind=4∨kind=6∨kind=10)->fullE e=true)∧(kind=5->e=.nil))
def PGood (p:LP×RS):Prop:=(procK p.1.kind∧((p.1.kind=3∨p.1.kind=4∨p.1.kind=6∨p.1.kind=10)->fullE p.1.expr=true∨p.2.errno≠0)∧(p.1.kind=5->p.1.expr=.nil))
theorem pgood_plain (p:LP×RS) (hk:procK p.1.kind) (h:p.1.kind≠3∧p.1.kind≠4∧p.1.kind≠6∧p.1.kind≠10) (h5:p.1.kind=5->p.1.expr=.nil):PGood p:=⟨hk,fun x=>by omega,h5⟩
theorem pgood_ite {c:Prop} [Decidable c] {a b:LP×RS} (ha:PGood a) (hb:PGood b):PGood (if c then a else b):=by
 split
 ·exact ha
 ·exact hb
theorem pgood_bare (k:Int) (σ:RS) (hk:procK k) (h:k≠3∧k≠4∧k≠6∧k≠10∧k≠5):PGood (bareF k σ):=pgood_plain _ hk ⟨h.1,h.2.1,h.2.2.1,h.2.2.2.1⟩ (fun x=>absurd x h.2.2.2.2)
theorem pgood_ask (k:Int) (σ:RS) (hk:procK k) (h5:k≠5):PGood (askF k σ):=⟨hk,fun _=>expr_good 4 σ.next,fun x=>absurd x h5⟩
theorem pgood_decl (k:Int) (σ:RS) (hk:procK k) (h:k≠3∧k≠4∧k≠6∧k≠10∧k≠5):PGood (declF k σ):=pgood_plain _ hk ⟨h.1,h.2.1,h.2.2.1,h.2.2.2.1⟩ (fun x=>absurd x h.2.2.2.2)
theorem procK_3:procK 3∧procK 4∧procK 5:=by unfold procK;decide
theorem pgood_read (ch:Bs) (σ:RS):PGood (readF 5 ch σ):=pgood_plain _ (show procK 5 from procK_3.2.2) (show (5:Int)≠3∧(5:Int)≠4∧(5:Int)≠6∧(5:Int)≠10 by decide) (fun _=>rfl)
theorem pgood_write (ch:Bs) (σ:RS):PGood (writeF ch σ):=⟨show procK 4 from procK_3.2.1,fun _=>expr_good 4 _,fun x=>absurd x (show ¬ (4:Int)=5 by decide)⟩
theorem pgood_name (nm:Bs) (σ:RS):PGood (onNameF nm σ):=by
 unfold onNameF
 exact pgood_ite ⟨show procK 3 from procK_3.1,fun _=>expr_good 4 _,fun x=>absurd x (show ¬ (3:Int)=5 by decide)⟩ (pgood_ite (pgood_write _ _) (pgood_read _ _))
theorem process_good (σ:RS):PGood (processF σ):=by
 have pk:∀ k:Int,1≤k∧k≤16∧k≠12∧k≠14->procK k:=fun k h=>h
 unfold processF
 refine pgood_ite (pgood_bare 1 σ (pk _ (by omega)) (by omega)) (pgood_ite (pgood_bare 2 σ (pk _ (by omega)) (by omega)) (pgood_ite (pgood_bare 7 σ (pk _ (by omega)) (by omega)) (pgood_ite (pgood_bare 8 σ (pk _ (by omega)) (by omega)) (pgood_ite (pgood_bare 9 σ (pk _ (by omega)) (by omega)) (pgood_ite (pgood_bare 11 σ (pk _ (by omega)) (by omega)) (pgood_ite (pgood_bare 13 σ (pk _ (by omega)) (by omega)) (pgood_ite (pgood_ask 6 σ (pk _ (by omega)) (by omega)) (pgood_ite (pgood_ask 10 σ (pk _ (by omega)) (by omega)) (pgood_ite (pgood_decl 15 σ (pk _ (by omega)) (by omega)) (pgood_ite (pgood_decl 16 σ (pk _ (by omega)) (by omega)) (pgood_ite (pgood_read _ _) (pgood_ite (pgood_write _ _) (pgood_name _ _)))))))))))))
def BGood (p:LP×RS):Prop:=p.1.kind=14∧(p.1.expr=.nil∨fullE p.1.expr=true∨p.2.errno≠0)
theorem source_keep {σ:RS} (h:σ.errno≠0):(sourceF σ).2.errno≠0:=by
 unfold sourceF
 split
 ·exact h
 ·exact name_err h
theorem bgood_guard (p:PE×RS) (h:GoodE p):BGood (guardedF p.1 p.2):=by
 refine⟨rfl,?_⟩
 rcases h with h|h
 ·exact .inr (.inl h)
 ·exact .inr (.inr (name_err (need_err (source_keep (need_err h _)) _)))
theorem branch_good (σ:RS):BGood (branchF σ):=by
 unfold branchF
 split
 ·exact⟨rfl,.inl rfl⟩
 ·split
  ·exact bgood_guard _ (expr_good 4 σ)
  ·split
   ·exact⟨rfl,.inl rfl⟩
   ·exact bgood_guard _ (from_good (operand_good 4) (operand_keep 4) (.inl rfl))
theorem line_good (body:Bs) (above:Int) (h:(readLineF body above).2=0):LNode above (readLineF body above).1.kind (readLineF body above).1.expr:=by
 unfold readLineF at h ⊢
 dsimp only at h ⊢
 have h0:(lineF above (startF body)).2.errno=0:=by
  split at h
  ·exact h
  ·exact absurd h (fail_err _ _ (by decide))
 clear h
 unfold lineF at h0 ⊢
 by_cases e1:above=11
 ·rw [if_pos e1] at h0 ⊢
  refine⟨fun _=>⟨rfl,?_⟩,fun x=>by omega,fun x=>absurd e1 x⟩
  exact (expr_good 4 _).resolve_right (fun x=>x h0)
 ·rw [if_neg e1] at h0 ⊢
  by_cases e2:above=13
  ·rw [if_pos e2] at h0 ⊢
   have:=branch_good ((startF body).need wOn)
   refine⟨fun x=>absurd x e1,fun _=>⟨this.1,?_⟩,fun _ x=>absurd e2 x⟩
   rcases this.2 with k|k|k
   ·exact .inl k
   ·exact .inr k
   ·exact absurd h0 k
  ·rw [if_neg e2] at h0 ⊢
   have:=process_good (startF body)
   refine⟨fun x=>absurd x e1,fun x=>absurd x e2,fun _ _=>⟨this.1,fun hk=>?_,this.2.2⟩⟩
   exact (this.2.1 hk).resolve_right (fun x=>x h0)
structure TabI (s:PS):Prop where
 kid:∀ i,i<s.nodes.length->∀ k∈(s.at i).kids,LNode (s.at i).kind (s.at k).kind (s.at k).expr
 most:∀ i,i<s.nodes.length->((s.at i).kids.length:Int)≤roomM (s.at i).kind
 full:∀ i,i<s.nodes.length->i∉s.chain->s.full i=true
theorem put_len (s:PS) (d:Nat) (p:LP) (no:Int):(s.put d p no).nodes.length=s.nodes.length+1:=by simp [PS.put]
theorem put_new (s:PS) (d:Nat) (p:LP) (no:Int):(s.put d p no).at s.nodes.length=newNode p no:=by
 unfold PS.at PS.put
 rw [List.getD,List.getElem?_append_right (by simp)]
 simp
theorem put_old (s:PS) (d:Nat) (p:LP) (no:Int) (i:Nat) (hi:i<s.nodes.length):(s.put d p no).at i=if i=s.above d then addKid s.nodes.length (s.at (s.above d)) else s.at i:=by
 unfold PS.at PS.put
 rw [List.getD,List.getElem?_append_left (by simpa using hi),List.getElem?_set]
 by_cases e:i=s.above d
 ·rw [if_pos e,if_pos e.symm,if_pos (by rw [<-e];exact hi)]
  rfl
 ·rw [if_neg e,if_neg (fun x=>e x.symm)]
  rfl
theorem TabI.start:TabI startP where
 kid:=by intro i hi k hk;simp [startP] at hi;subst hi;simp [startP,PS.at] at hk
 most:=by intro i hi;simp [startP] at hi;subst hi;simp [startP,PS.at,roomM]
 full:=by intro i hi hc;simp [startP] at hi;subst hi;simp [startP] at hc
theorem TabI.put {s:PS} (h:TabI s) (ok:s.Ok) (d:Nat) (p:LP) (no:Int) (hf:s.fits d=true) (hp:LNode (s.at (s.above d)).kind p.kind p.expr):TabI (s.put d p no):=by
 have hd:=PS.fits_lt hf
 have ha:=ok.above hd
 have hfit:s.complete (d+1)=true∧((s.at (s.above d)).kids.length:Int)<roomM (s.at (s.above d)).kind:=by
  unfold PS.fits at hf
  simp only [Bool.and_eq_true,decide_eq_true_eq] at hf
  exact⟨hf.1.2,hf.2⟩
 have kin:∀ i,i<s.nodes.length->∀ k∈(s.at i).kids,k<s.nodes.length:=by
  intro i hi k hk
  have hm:s.at i∈s.nodes:=by unfold PS.at;rw [getD_lt _ _ _ hi];exact List.getElem_mem hi
  exact ok.kids _ hm k hk
 have same:∀ k,k<s.nodes.length->((s.put d p no).at k).kind=(s.at k).kind∧((s.put d p no).at k).expr=(s.at k).expr:=by
  intro k hk
  rw [put_old s d p no k hk]
  split
  ·rename_i e;subst e;exact⟨rfl,rfl⟩
  ·exact⟨rfl,rfl⟩
 refine⟨fun i hi k hk=>?_,fun i hi=>?_,fun i hi hc=>?_⟩
 ·rw [put_len] at hi
  by_cases e:i=s.nodes.length
  ·subst e
   rw [put_new] at hk
   simp [newNode] at hk
  ·have hi':i<s.nodes.length:=by omega
   rw [(same i hi').1]
   rw [put_old s d p no i hi'] at hk
   split at hk
   ·rename_i e2
    subst e2
    rcases List.mem_append.1 hk with hk|hk
    ·have:=kin _ hi' k hk
     rw [(same k this).1,(same k this).2]
     exact h.kid _ hi' k hk
    ·have hk:k=s.nodes.length:=by simpa using hk
     subst hk
     rw [put_new]
     exact hp
   ·have:=kin _ hi' k hk
    rw [(same k this).1,(same k this).2]
    exact h.kid _ hi' k hk
 ·rw [put_len] at hi
  by_cases e:i=s.nodes.length
  ·subst e
   rw [put_new]
   show ((0:Nat):Int)≤roomM p.kind
   unfold roomM
   repeat (split;·omega)
   omega
  ·have hi':i<s.nodes.length:=by omega
   rw [(same i hi').1,put_old s d p no i hi']
   split
   ·rename_i e2
    subst e2
    show (((s.at (s.above d)).kids++[s.nodes.length]).length:Int)≤_
    rw [List.length_append,List.length_singleton]
    have:=hfit.2
    omega
   ·exact h.most i hi'
 ·rw [put_len] at hi
  have hch:(s.put d p no).chain=s.chain.take (d+1)++[s.nodes.length]:=rfl
  rw [hch] at hc
  have hne:i≠s.nodes.length:=fun e=>hc (by rw [e];simp)
  have hnt:i∉s.chain.take (d+1):=fun e=>hc (List.mem_append.2 (.inl e))
  have hi':i<s.nodes.length:=by omega
  have hna:i≠s.above d:=by
   intro e
   apply hnt
   rw [e]
   unfold PS.above
   rw [getD_lt _ _ _ hd]
   have hl:d<(s.chain.take (d+1)).length:=by rw [List.length_take];omega
   have:(s.chain.take (d+1))[d]=s.chain[d]:=List.getElem_take
   rw [<-this]
   exact List.getElem_mem hl
  have hold:s.full i=true:=by
   by_cases hc2:i∈s.chain
   ·have hdrop:i∈s.chain.drop (d+1):=by
     have:i∈s.chain.take (d+1)++s.chain.drop (d+1):=by rw [List.take_append_drop];exact hc2
     exact (List.mem_append.1 this).resolve_left hnt
    have:=hfit.1
    unfold PS.complete at this
    rw [List.all_eq_true] at this
    exact this i hdrop
   ·exact h.full i hi' hc2
  unfold PS.full at hold ⊢
  rw [put_old s d p no i hi',if_neg hna]
  exact hold
theorem TabI.add {s:PS} (h:TabI s) (ok:s.Ok) (l:Bs) (n:Int):TabI (s.add l n).1:=by
 unfold PS.add
 split
 ·exact h
 ·split
  ·exact h
  ·split
   ·exact h
   ·rename_i hf
    dsimp only
    split
    ·exact h
    ·rename_i hr
     have hf':s.fits ((l.length - (trimB l).length) / 2)=true:=by
      rcases hq:s.fits ((l.length - (trimB l).length) / 2) with _|_
      ·exact absurd (.inr hq) hf
      ·rfl
     exact h.put ok _ _ _ hf' (line_good _ _ (by simpa using hr))
theorem upTo_tab (ls:List Bs):∀ k,TabI (upTo ls k)
 | 0=>TabI.start
 | k+1=>(upTo_tab ls k).add (upTo_ok ls k) _ _
theorem root_kind {s:PS} (h:TabI s) (h0:0<s.nodes.length) (hk0:(s.at 0).kind=0) (hp:0<(s.at 0).kids.length):procK (s.at (rootOf s)).kind:=by
 have hm:rootOf s∈(s.at 0).kids:=by unfold rootOf;rw [getD_lt _ _ _ hp];exact List.getElem_mem hp
 have:=h.kid 0 h0 _ hm
 exact (this.2.2 (by rw [hk0];decide) (by rw [hk0];decide)).1
theorem KRow.find {E:Nat->Nat}:∀ {ks:List Nat} {a e i:Nat},KRow E a ks e->a≤i->i<e->∃ k∈ks,k≤i∧i<E k
 | [],a,e,i,h,h1,h2=>by
  have h:a=e:=h
  omega
 | k :: ks,a,e,i,h,h1,h2=>by
  obtain⟨rfl,h3,h4⟩:=h
  by_cases hk:i<E k
  ·exact⟨k,by simp,h1,hk⟩
  ·obtain⟨k2,hk2,h5⟩:=KRow.find h4 (by omega) h2
   exact⟨k2,by simp [hk2],h5⟩
theorem parent_in {s:PS} {E par:Nat->Nat} (hw:Walked s E par):∀ (m i j:Nat),i - j≤m->j<i->j<s.nodes.length->i<E j->∃ p,p<s.nodes.length∧i∈(s.at p).kids
 | 0,i,j,hm,hj,_,_=>by omega
 | m+1,i,j,hm,hj,hjl,hi=>by
  obtain⟨k,hk,h1,h2⟩:=KRow.find (hw.row j hjl) (by omega) hi
  have h3:=(hw.row j hjl).mem k hk
  by_cases e:k=i
  ·subst e
   exact⟨j,hjl,hk⟩
  ·have:=hw.top j hjl
   exact parent_in hw m i k (by omega) (by omega) (by omega) h2
theorem parent_of {s:PS} {E par:Nat->Nat} (hw:Walked s E par) {i:Nat} (hi:i<s.nodes.length) (h0:0<i):∃ p,p<s.nodes.length∧i∈(s.at p).kids:=by
 have h1:0∈s.chain:=List.mem_of_head? hw.head
 have h2:=hw.ends 0 h1
 exact parent_in hw i i 0 (by omega) h0 (by omega) (by omega)
theorem text_wf (text:Bs) (s:PS) (hs:(parseF text (linesF text)).1=some s):WfT s.nodes∧rootOf s<s.nodes.length∧procK (s.at (rootOf s)).kind∧s.nodes.length≤802:=by
 obtain⟨hl,rfl,hc⟩:=parseF_done_iff _ _ _ hs
 have hlen:(upTo (linesF text) (linesF text).length).nodes.length≤802:=by
  have h1:=upTo_len (linesF text) (linesF text).length
  have h2:=linesF_len text
  omega
 have hr:=(root_lt _ _ hc).1
 have hok:=upTo_ok (linesF text) (linesF text).length
 have htab:=upTo_tab (linesF text) (linesF text).length
 have hfst:=upTo_first (linesF text) (linesF text).length
 obtain⟨E,par,hw⟩:=upTo_walked (linesF text) (linesF text).length
 generalize upTo (linesF text) (linesF text).length=s at *
 have hroot:=root_in hw hr
 have h0:0<s.nodes.length:=List.length_pos_iff.2 hfst.2.1
 have hfull:∀ i,i<s.nodes.length->roomL (s.at i).kind≤((s.at i).kids.length:Int):=by
  intro i hi
  have:s.full i=true:=by
   by_cases hci:i∈s.chain
   ·unfold PS.complete at hc
    rw [List.all_eq_true] at hc
    exact hc i (by simpa using hci)
   ·exact htab.full i hi hci
  unfold PS.full at this
  simpa using this
 have hlines:∀ i,i<s.nodes.length->LineOk (s.at i):=by
  intro i hi
  by_cases hi0:i=0
  ·subst hi0
   refine⟨fun x=>?_,fun x=>?_⟩ <;> (rw [hfst.2.2] at x;omega)
  ·obtain⟨j,hj,hk⟩:=parent_of hw hi (by omega)
   have:=htab.kid j hj i hk
   by_cases e1:(s.at j).kind=11
   ·have:=(this.1 e1).1
    exact⟨fun x=>by omega,fun x=>by omega⟩
   ·by_cases e2:(s.at j).kind=13
    ·have:=(this.2.1 e2).1
     exact⟨fun x=>by omega,fun x=>by omega⟩
    ·have:=this.2.2 e1 e2
     exact⟨fun x=>this.2.1 (by omega),fun x=>.inl (this.2.2 x)⟩
 have hasks:∀ i,i<s.nodes.length->(s.at i).kind=10->fullE (s.at i).expr=true:=by
  intro i hi hk10
  by_cases hi0:i=0
  ·subst hi0
   rw [hfst.2.2] at hk10
   omega
  ·obtain⟨j,hj,hk⟩:=parent_of hw hi (by omega)
   have:=htab.kid j hj i hk
   by_cases e1:(s.at j).kind=11
   ·have:=(this.1 e1).1
    omega
   ·by_cases e2:(s.at j).kind=13
    ·have:=(this.2.1 e2).1
     omega
    ·exact (this.2.2 e1 e2).2.1 (by omega)
 refine⟨⟨hw.up,fun i hi e1 e2 k hk=>((htab.kid i hi k hk).2.2 e1 e2).1,fun i hi e k hk=>(htab.kid i hi k hk).1 e,fun i hi e k hk=>(htab.kid i hi k hk).2.1 e,hasks,hlines,fun i hi hk=>?_,fun i hi h1 h2=>?_⟩,hroot.2,root_kind htab h0 hfst.2.2 hr,hlen⟩
 ·have h1:=hfull i hi
  have h2:=htab.most i hi
  have e1:roomL (s.at i).kind=1:=by
   unfold roomL
   have hk:(s.at i).kind=10∨(s.at i).kind=12∨(s.at i).kind=14∨(s.at i).kind=15∨(s.at i).kind=16:=hk
   rw [if_neg (by omega),if_pos (by omega)]
  have e2:roomM (s.at i).kind=1:=by
   unfold roomM
   have hk:(s.at i).kind=10∨(s.at i).kind=12∨(s.at i).kind=14∨(s.at i).kind=15∨(s.at i).kind=16:=hk
   rw [if_neg (by omega),if_neg (by omega),if_pos (by omega)]
  rw [e1] at h1
  rw [e2] at h2
  have:((s.at i).kids.length:Int)=1:=by omega
  show (s.at i).kids.length=1
  omega
 ·have h3:=htab.most i hi
  have h1:1≤(s.at i).kind:=h1
  have h2:(s.at i).kind≤6:=h2
  have e2:roomM (s.at i).kind=0:=by
   unfold roomM
   rw [if_neg (by omega),if_neg (by omega),if_neg (by omega)]
  rw [e2] at h3
  have h4:(s.at i).kids.length=0:=by omega
  exact List.eq_nil_of_length_eq_zero h4
end Go.Proofs.YtnhidaamfnjdjaaGreatDoor
namespace Go.Proofs.YtnhidaamfnjdjaaGreatDoor
open Go.RowKit Go.Maps
def PE.InN (N:Int):PE->Prop
 | .nil=>True
 | .num _=>True
 | .var _ d=>0≤d∧d<N
 | .pair _ a b=>a.InN N∧b.InN N
structure NInN (N:Int) (n:PNode):Prop where
 nd:0≤n.nd∧n.nd<N
 cd:0≤n.cd∧n.cd<N
 expr:n.expr.InN N
structure StB (N:Int) (st:RV×List PNode):Prop where
 nodes:∀ i,NInN N (st.2.getD i default)
 hold:∀ d∈st.1.hold,0≤d.num∧d.num<N
section
variable {N : Int} (h0 : 0 < N)
include h0
theorem NInN.dflt:NInN N default:=⟨⟨by show (0:Int)≤0;omega,h0⟩,⟨by show (0:Int)≤0;omega,h0⟩,trivial⟩
theorem nearestB:∀ (l:List DC) (t:Bs),(∀ d∈l,0≤d.num∧d.num<N)->0≤(nearestF l t).num∧(nearestF l t).num<N
 | [],_,_=>⟨by show (0:Int)≤0;omega,h0⟩
 | d :: l,t,h=>by
  unfold nearestF
  split
  ·exact nearestB l t (fun x hx=>h x (by simp [hx]))
  ·split
   ·exact h d (by simp)
   ·exact⟨by show (0:Int)≤0;omega,h0⟩
theorem resolveB (r:RV) (t:Bs) (old must line:Int) (h:∀ d∈r.hold,0≤d.num∧d.num<N) (ho:0≤old∧old<N):0≤(resolveF r t old must line).2∧(resolveF r t old must line).2<N:=by
 unfold resolveF;split
 ·exact nearestB h0 _ _ h
 ·exact ho
theorem eachB (line:Int):∀ (e:PE) (r:RV),(∀ d∈r.hold,0≤d.num∧d.num<N)->e.InN N->(eachF line r e).2.InN N
 | .nil,_,_,_=>trivial
 | .num _,_,_,_=>trivial
 | .var n d,r,h,he=>resolveB h0 r n d 15 line h he
 | .pair op a b,r,h,he=>⟨eachB line a r h he.1,eachB line b (eachF line r a).1 (by rw [eachF_hold'];exact h) he.2⟩
theorem nameOfB (r:RV) (n:PNode) (h:∀ d∈r.hold,0≤d.num∧d.num<N) (hn:NInN N n):NInN N (nameOf r n).2:=⟨resolveB h0 r n.name n.nd 15 n.line h hn.nd,hn.cd,hn.expr⟩
theorem chanOfB (r:RV) (n:PNode) (h:∀ d∈r.hold,0≤d.num∧d.num<N) (hn:NInN N n):NInN N (chanOf r n).2:=⟨hn.nd,resolveB h0 r n.chan n.cd 16 n.line h hn.cd,hn.expr⟩
theorem headB (r:RV) (n:PNode) (h:∀ d∈r.hold,0≤d.num∧d.num<N) (hn:NInN N n):NInN N (headOf r n).2:=by
 have hc:(chanOf r n).1.hold=r.hold:=by unfold chanOf resolveF;dsimp only;split <;> rfl
 unfold headOf;split
 ·exact nameOfB h0 r n h hn
 ·split
  ·exact chanOfB h0 r n h hn
  ·split
   ·exact nameOfB h0 _ _ (by rw [hc];exact h) (chanOfB h0 r n h hn)
   ·exact hn
theorem exprB (r:RV) (n:PNode) (h:∀ d∈r.hold,0≤d.num∧d.num<N) (hn:NInN N n):NInN N (exprOf r n).2:=⟨hn.nd,hn.cd,eachB h0 n.line n.expr r h hn.expr⟩
theorem setB {ns:List PNode} (h:∀ i,NInN N (ns.getD i default)) (i:Nat) (n:PNode) (hn:NInN N n) (j:Nat):NInN N ((ns.set i n).getD j default):=by
 simp only [List.getD,List.getElem?_set]
 split
 ·split
  ·exact hn
  ·exact NInN.dflt h0
 ·exact h j
end
structure NA (a e:Nat) (st res:RV×List PNode):Prop where
 mono:st.1.next≤res.1.next
 frame:∀ j,¬ (a≤j∧j<e)->res.2.getD j default=st.2.getD j default
 range:∀ N,3≤N->StB N st->res.1.next≤N->StB N res
 last:res.1.next=st.1.next∨∃ j,a≤j∧j<e∧((res.2.getD j default).kind=15∨(res.2.getD j default).kind=16)∧(res.2.getD j default).nd+1=res.1.next
theorem NA.refl (a e:Nat) (st:RV×List PNode):NA a e st st:=⟨Int.le_refl _,fun _ _=>rfl,fun _ _ h _=>h,.inl rfl⟩
theorem NA.trans {a b e:Nat} {st s1 s2:RV×List PNode} (hab:a≤b) (hbe:b≤e) (h:NA a b st s1) (k:NA b e s1 s2):NA a e st s2 where
 mono:=Int.le_trans h.mono k.mono
 frame:=fun j hj=>(k.frame j (fun x=>hj ⟨by omega,x.2⟩)).trans (h.frame j (fun x=>hj ⟨x.1,by omega⟩))
 range:=fun N hN hs hn=>k.range N hN (h.range N hN hs (Int.le_trans k.mono hn)) hn
 last:=by
  rcases k.last with e1|⟨j,j1,j2,j3,j4⟩
  ·rcases h.last with e2|⟨j,j1,j2,j3,j4⟩
   ·exact .inl (e1.trans e2)
   ·refine .inr ⟨j,j1,by omega,?_,?_⟩
    ·rw [k.frame j (by omega)];exact j3
    ·rw [k.frame j (by omega),e1];exact j4
  ·exact .inr ⟨j,by omega,j2,j3,j4⟩
theorem getD_set_ne {α:Type} (l:List α) (i j:Nat) (x d:α) (h:j≠i):(l.set i x).getD j d=l.getD j d:=by
 simp only [List.getD,List.getElem?_set,if_neg (fun e:i=j=>h e.symm)]
theorem getD_set_self {α:Type} (l:List α) (i:Nat) (x d:α) (h:i<l.length):(l.set i x).getD i d=x:=by
 simp only [List.getD,List.getElem?_set_self h,Option.getD_some]
theorem nameF_all (ns:List PNode) (E:Nat->Nat) (hrow:∀ i,i<ns.length->KRow E (i+1) (ns.getD i default).kids (E i)) (htop:∀ i,i<ns.length->E i≤ns.length) :
  ∀ (f:Nat) (st:RV×List PNode) (i:Nat),SameShape ns st.2->i<ns.length->StIn st->st.1.next+((E i:Int) - (i:Int))≤2000->NA i (E i) st (nameF f st i)
 | 0,st,i,_,hi,h,_=>NA.refl _ _ _
 | f+1,st,i,hsh,hi,h,hlim=>by
  have hE:=(hrow i hi).le
  have key:∀ (l:List Nat) (a e:Nat) (x:RV×List PNode),KRow E a l e->e≤ns.length->SameShape ns x.2->StIn x->x.1.next+((e:Int) - (a:Int))≤2000->NA a e x (l.foldl (nameF f) x):=by
   intro l
   induction l with
   | nil =>
    intro a e x hr _ _ hx _
    exact NA.refl _ _ _
   | cons k l ih =>
    intro a e x hr he hs hx hb
    obtain⟨h1,h2,h3⟩:=hr
    have h4:=h3.le
    have hk:k<ns.length:=by omega
    have g0:=nameF_in ns E hrow htop f x k hs hk hx (by omega)
    have g:=nameF_all ns E hrow htop f x k hs hk hx (by omega)
    have g2:=ih (E k) e (nameF f x k) h3 he (hs.trans (nameF_keep f x k).1) g0.1 (by omega)
    rw [List.foldl_cons]
    subst h1
    exact g.trans (Nat.le_of_lt h2) h4 g2
  have hkids:(st.2.getD i default).kids=(ns.getD i default).kids:=hsh.kids i
  have hr:=hrow i hi
  rw [<-hkids] at hr
  have ht:=htop i hi
  have hil:i<st.2.length:=by rw [hsh.len];exact hi
  unfold nameF
  dsimp only
  split
  ·rename_i hkd
   have hw:wrap64 (st.1.next+1)=st.1.next+1:=IntWalk.wrap64_in _ (by have:=h.next;omega)
   have g:=key _ (i+1) (E i) (pushF st.1 (st.2.getD i default),st.2.set i { st.2.getD i default with nd:=st.1.next }) hr ht
    (hsh.trans (SameShape.set st.2 i { st.2.getD i default with nd:=st.1.next } rfl rfl))
    ⟨set_in h.nodes i _ ⟨⟨h.next,by show st.1.next<2000;omega⟩,(h.nodes i).cd,(h.nodes i).expr⟩,by
     intro d hd
     simp only [pushF,List.mem_append,List.mem_singleton] at hd
     rcases hd with hd|rfl
     ·exact h.hold d hd
     ·exact⟨h.next,by show st.1.next<2000;omega⟩,by
     show 0≤wrap64 (st.1.next+1)
     rw [hw];have:=h.next;omega⟩
    (by show wrap64 (st.1.next+1)+_≤_;rw [hw];omega)
   generalize List.foldl (nameF f) _ _=q at g ⊢
   have gm:wrap64 (st.1.next+1)≤q.1.next:=g.mono
   rw [hw] at gm
   refine⟨by show st.1.next≤q.1.next;omega,fun j hj=>?_,fun N hN hs hn=>?_,?_⟩
   ·show q.2.getD j default=_
    rw [g.frame j (fun x=>hj ⟨by omega,x.2⟩)]
    exact getD_set_ne _ _ _ _ _ (fun x=>hj ⟨by omega,by omega⟩)
   ·have hn:q.1.next≤N:=hn
    have:=g.range N hN ⟨setB (by omega) hs.nodes i _ ⟨⟨h.next,by show st.1.next<N;omega⟩,(hs.nodes i).cd,(hs.nodes i).expr⟩,by
     intro d hd
     simp only [pushF,List.mem_append,List.mem_singleton] at hd
     rcases hd with hd|rfl
     ·exact hs.hold d hd
     ·exact⟨h.next,by show st.1.next<N;omega⟩⟩ hn
    exact⟨this.nodes,fun d hd=>this.hold d (List.dropLast_subset _ hd)⟩
   ·right
    rcases g.last with e1|⟨j,j1,j2,j3,j4⟩
    ·have e1:q.1.next=wrap64 (st.1.next+1):=e1
     rw [hw] at e1
     have e2:q.2.getD i default={ st.2.getD i default with nd:=st.1.next }:=by
      rw [g.frame i (by omega)]
      exact getD_set_self _ _ _ _ hil
     refine⟨i,Nat.le_refl _,by omega,?_,?_⟩
     ·show (q.2.getD i default).kind=15∨_
      rw [e2];exact hkd
     ·show (q.2.getD i default).nd+1=q.1.next
      rw [e2,e1]
    ·exact⟨j,by omega,j2,j3,j4⟩
  ·have h1:=headOf_in st.1 (st.2.getD i default) h.hold (h.nodes i)
   have h2:=exprOf_in (headOf st.1 (st.2.getD i default)).1 (headOf st.1 (st.2.getD i default)).2 (by rw [h1.2.1];exact h.hold) h1.1
   have hh:=headOf_same st.1 (st.2.getD i default)
   have hnx:(exprOf (headOf st.1 (st.2.getD i default)).1 (headOf st.1 (st.2.getD i default)).2).1.next=st.1.next:=h2.2.2.trans h1.2.2
   have hho:(exprOf (headOf st.1 (st.2.getD i default)).1 (headOf st.1 (st.2.getD i default)).2).1.hold=st.1.hold:=h2.2.1.trans h1.2.1
   have g:=key _ (i+1) (E i) ((exprOf (headOf st.1 (st.2.getD i default)).1 (headOf st.1 (st.2.getD i default)).2).1,st.2.set i (exprOf (headOf st.1 (st.2.getD i default)).1 (headOf st.1 (st.2.getD i default)).2).2) hr ht
    (hsh.trans (SameShape.set st.2 i _ hh.1 hh.2.1))
    ⟨set_in h.nodes i _ h2.1,by
     show ∀ d∈(exprOf _ _).1.hold,InR d.num
     rw [h2.2.1,h1.2.1];exact h.hold,by
     show 0≤(exprOf _ _).1.next
     rw [hnx];exact h.next⟩
    (by show (exprOf _ _).1.next+_≤_;rw [hnx];omega)
   have hb:∀ N,3≤N->StB N st->NInN N (exprOf (headOf st.1 (st.2.getD i default)).1 (headOf st.1 (st.2.getD i default)).2).2:=fun N hN hs=>exprB (by omega) _ _ (by rw [h1.2.1];exact hs.hold) (headB (by omega) _ _ hs.hold (hs.nodes i))
   generalize exprOf (headOf st.1 (st.2.getD i default)).1 (headOf st.1 (st.2.getD i default)).2=x at *
   generalize List.foldl (nameF f) _ _=q at g ⊢
   have gm:x.1.next≤q.1.next:=g.mono
   rw [hnx] at gm
   refine⟨gm,fun j hj=>?_,fun N hN hs hn=>?_,?_⟩
   ·rw [g.frame j (fun x=>hj ⟨by omega,x.2⟩)]
    exact getD_set_ne _ _ _ _ _ (fun x=>hj ⟨by omega,by omega⟩)
   ·exact g.range N hN ⟨setB (by omega) hs.nodes i _ (hb N hN hs),by show ∀ d∈x.1.hold,_;rw [hho];exact hs.hold⟩ hn
   ·rcases g.last with e1|⟨j,j1,j2,j3,j4⟩
    ·exact .inl (e1.trans hnx)
    ·exact .inr ⟨j,by omega,j2,j3,j4⟩
theorem each_shape (line:Int):∀ (e:PE) (r:RV),fullE (eachF line r e).2=fullE e∧sizeE (eachF line r e).2=sizeE e∧((eachF line r e).2=.nil↔e=.nil)
 | .nil,_=>⟨rfl,rfl,Iff.rfl⟩
 | .num _,_=>⟨rfl,rfl,Iff.rfl⟩
 | .var _ _,_=>⟨rfl,rfl,⟨(fun h=>by cases h),(fun h=>by cases h)⟩⟩
 | .pair op a b,r=>by
  have h1:=each_shape line a r
  have h2:=each_shape line b (eachF line r a).1
  refine⟨?_,?_,⟨(fun h=>by cases h),(fun h=>by cases h)⟩⟩
  ·show (fullE _&&fullE _)=(fullE _&&fullE _)
   rw [h1.1,h2.1]
  ·show sizeE _+sizeE _+1=_
   rw [h1.2.1,h2.2.1]
   rfl
def SameX (ns ns':List PNode):Prop:=∀ i,fullE (ns'.getD i default).expr=fullE (ns.getD i default).expr∧sizeE (ns'.getD i default).expr=sizeE (ns.getD i default).expr∧((ns'.getD i default).expr=.nil↔(ns.getD i default).expr=.nil)
theorem SameX.refl (ns:List PNode):SameX ns ns:=fun _=>⟨rfl,rfl,Iff.rfl⟩
theorem SameX.trans {a b c:List PNode} (h:SameX a b) (k:SameX b c):SameX a c:=fun i=>⟨(k i).1.trans (h i).1,(k i).2.1.trans (h i).2.1,(k i).2.2.trans (h i).2.2⟩
theorem SameX.set (ns:List PNode) (i:Nat) (n:PNode) (h:fullE n.expr=fullE (ns.getD i default).expr∧sizeE n.expr=sizeE (ns.getD i default).expr∧(n.expr=.nil↔(ns.getD i default).expr=.nil)):SameX ns (ns.set i n):=by
 intro j
 by_cases e:j=i
 ·subst e
  by_cases hl:j<ns.length
  ·rw [getD_set_self _ _ _ _ hl];exact h
  ·rw [List.set_eq_of_length_le (by omega)]
   exact⟨rfl,rfl,Iff.rfl⟩
 ·rw [getD_set_ne _ _ _ _ _ e]
  exact⟨rfl,rfl,Iff.rfl⟩
theorem nameF_x:∀ (f:Nat) (st:RV×List PNode) (i:Nat),SameX st.2 (nameF f st i).2
 | 0,st,_=>SameX.refl _
 | f+1,st,i=>by
  have ih:∀ (l:List Nat) (x:RV×List PNode),SameX x.2 (l.foldl (nameF f) x).2 :=
   fun l x=>fold_keep (fun x y:RV×List PNode=>SameX x.2 y.2) (fun x=>SameX.refl _) (fun x y z h k=>h.trans k) (nameF f) (fun x k=>nameF_x f x k) l x
  unfold nameF
  dsimp only
  split
  ·exact (SameX.set st.2 i { st.2.getD i default with nd:=st.1.next } ⟨rfl,rfl,Iff.rfl⟩).trans (ih _ _)
  ·have hh:=headOf_same st.1 (st.2.getD i default)
   refine (SameX.set st.2 i (exprOf (headOf st.1 (st.2.getD i default)).1 (headOf st.1 (st.2.getD i default)).2).2 ?_).trans (ih _ (_,_))
   have:=each_shape (headOf st.1 (st.2.getD i default)).2.line (headOf st.1 (st.2.getD i default)).2.expr (headOf st.1 (st.2.getD i default)).1
   rw [hh.2.2.1] at this
   show fullE (eachF _ _ _).2=_∧sizeE (eachF _ _ _).2=_∧((eachF _ _ _).2=_↔_)
   rw [hh.2.2.1]
   exact this
theorem WfT.shape {a b:List PNode} (h:WfT a) (hs:SameShape a b) (hx:SameX a b):WfT b where
 up:=fun i k hk=>by rw [hs.kids] at hk;rw [hs.len];exact h.up i k hk
 kids:=fun i hi h1 h2 k hk=>by rw [hs.kids] at hk;rw [hs.kind] at h1 h2 ⊢;rw [hs.len] at hi;exact h.kids i hi h1 h2 k hk
 whens:=fun i hi h1 k hk=>by rw [hs.kids] at hk;rw [hs.kind] at h1 ⊢;rw [hs.len] at hi;rw [(hx k).1];exact h.whens i hi h1 k hk
 ons:=fun i hi h1 k hk=>by rw [hs.kids] at hk;rw [hs.kind] at h1 ⊢;rw [hs.len] at hi;rw [(hx k).1,(hx k).2.2];exact h.ons i hi h1 k hk
 asks:=fun i hi h1=>by rw [hs.kind] at h1;rw [hs.len] at hi;rw [(hx i).1];exact h.asks i hi h1
 line:=fun i hi=>by
  rw [hs.len] at hi
  have:=h.line i hi
  unfold LineOk at this ⊢
  rw [hs.kind,(hx i).1,(hx i).2.2]
  exact this
 one:=fun i hi h1=>by rw [hs.kids];rw [hs.kind] at h1;rw [hs.len] at hi;exact h.one i hi h1
 leaf:=fun i hi h1 h2=>by rw [hs.kids];rw [hs.kind] at h1 h2;rw [hs.len] at hi;exact h.leaf i hi h1 h2
end Go.Proofs.YtnhidaamfnjdjaaGreatDoor
namespace Go.Proofs.YtnhidaamfnjdjaaGreatDoor
open Go.RowKit Go.Maps
def szB:Nat->Nat
 | 0=>1
 | n+1=>2 * szB n+1
theorem from_sz {f:RS->PE×RS} {c:Nat} (hf:∀ σ,sizeE (f σ).1≤c) {p:PE×RS} {d:Nat} (hp:sizeE p.1≤d):sizeE (fromF f p).1≤d+c+1:=by
 unfold fromF
 split
 ·show sizeE _+sizeE _+1≤_
  have:=hf p.2.next
  omega
 ·omega
theorem leaf_sz (σ:RS):sizeE (leafF σ).1≤1:=by
 unfold leafF
 split <;> exact Nat.le_refl _
theorem szB_pos:∀ n,1≤szB n
 | 0=>Nat.le_refl _
 | n+1=>by unfold szB;omega
theorem operand_sz:∀ n σ,sizeE (operandF n σ).1≤szB n
 | 0,σ=>by
  unfold operandF
  split
  ·show 0≤_;omega
  ·exact leaf_sz σ
 | n+1,σ=>by
  unfold operandF
  split
  ·have:=from_sz (operand_sz n) (operand_sz n (({ σ with opn:=σ.opn+1 }:RS).need [40]))
   show sizeE (fromF _ _).1≤2 * szB n+1
   omega
  ·have:=leaf_sz σ
   have:=szB_pos (n+1)
   omega
theorem expr_sz (σ:RS):sizeE (exprF 4 σ).1≤63:=by
 have:=from_sz (operand_sz 4) (operand_sz 4 σ)
 have e:szB 4=31:=by decide
 rw [e] at this
 exact this
def SzP (p:LP×RS):Prop:=sizeE p.1.expr≤63
theorem sz_ite {c:Prop} [Decidable c] {a b:LP×RS} (ha:SzP a) (hb:SzP b):SzP (if c then a else b):=by
 split
 ·exact ha
 ·exact hb
theorem sz_nil (k:Int) (a b:Bs) (σ:RS):SzP (⟨k,a,b,.nil⟩,σ):=Nat.zero_le _
theorem name_sz (nm:Bs) (σ:RS):SzP (onNameF nm σ):=by
 unfold onNameF
 exact sz_ite (expr_sz _) (sz_ite (expr_sz _) (sz_nil _ _ _ _))
theorem process_sz (σ:RS):SzP (processF σ):=by
 unfold processF
 exact sz_ite (sz_nil _ _ _ _) (sz_ite (sz_nil _ _ _ _) (sz_ite (sz_nil _ _ _ _) (sz_ite (sz_nil _ _ _ _) (sz_ite (sz_nil _ _ _ _) (sz_ite (sz_nil _ _ _ _) (sz_ite (sz_nil _ _ _ _) (sz_ite (expr_sz _) (sz_ite (expr_sz _) (sz_ite (sz_nil _ _ _ _) (sz_ite (sz_nil _ _ _ _) (sz_ite (sz_nil _ _ _ _) (sz_ite (expr_sz _) (name_sz _ _)))))))))))))
theorem branch_sz (σ:RS):SzP (branchF σ):=by
 unfold branchF
 refine sz_ite (sz_nil _ _ _ _) (sz_ite (expr_sz _) (sz_ite (sz_nil _ _ _ _) ?_))
 have:=from_sz (f:=operandF 4) (operand_sz 4) (p:=(.var σ.name.1 0,σ.name.2)) (d:=1) (Nat.le_refl _)
 have e:szB 4=31:=by decide
 rw [e] at this
 show sizeE (fromF _ _).1≤63
 omega
theorem line_sz (body:Bs) (above:Int):sizeE (readLineF body above).1.expr≤63:=by
 unfold readLineF lineF
 dsimp only
 split
 ·exact expr_sz _
 ·split
  ·exact branch_sz _
  ·exact process_sz _
theorem upTo_sz (ls:List Bs):∀ k,∀ i,sizeE ((upTo ls k).at i).expr≤63
 | 0=>by
  intro i
  unfold PS.at upTo startP
  cases i with
  | zero=>exact Nat.zero_le _
  | succ i=>exact Nat.zero_le _
 | k+1=>by
  have ih:=upTo_sz ls k
  have ok:=upTo_ok ls k
  intro i
  show sizeE (((upTo ls k).add _ _).1.at i).expr≤63
  generalize upTo ls k=s at ih ok
  unfold PS.add
  split
  ·exact ih i
  ·split
   ·exact ih i
   ·split
    ·exact ih i
    ·dsimp only
     split
     ·exact ih i
     ·generalize hd:(List.length (ls.getD k []) - List.length (trimB (ls.getD k []))) / 2=d at *
      rcases Nat.lt_trichotomy i s.nodes.length with h|h|h
      ·rw [put_old _ _ _ _ _ h]
       split
       ·exact ih _
       ·exact ih i
      ·rw [h,put_new]
       exact line_sz _ _
      ·unfold PS.at
       rw [getD_ge _ _ _ (by rw [put_len];omega)]
       exact Nat.zero_le _
def wsum (E:Nat->Nat) (l:List Nat):Nat:=(l.map fun k=>E k - k).sum
theorem wsum_row {E:Nat->Nat}:∀ {ks:List Nat} {a e:Nat},KRow E a ks e->wsum E ks=e - a∧a≤e
 | [],a,e,h=>by
  have h:a=e:=h
  subst h
  exact⟨by simp [wsum],Nat.le_refl _⟩
 | k :: ks,a,e,h=>by
  obtain⟨rfl,h2,h3⟩:=h
  have:=wsum_row h3
  refine⟨?_,by omega⟩
  show E k - k+wsum E ks=_
  rw [this.1]
  omega
theorem wsum_zip (E:Nat->Nat):∀ (l l':List Nat),wsum E ((l.zip l').map Prod.fst)≤wsum E l
 | [],_=>by simp
 | _ :: _,[]=>by simp [wsum]
 | k :: l,x :: l'=>by
  have:=wsum_zip E l l'
  show E k - k+wsum E ((l.zip l').map Prod.fst)≤E k - k+wsum E l
  omega
def Gw (c b:Nat) (s s':CM):Prop:=s'.code.length≤s.code.length+c∧s'.br.length≤s.br.length+b
theorem Gw.trans {c b c' b':Nat} {s s1 s2:CM} (h:Gw c b s s1) (k:Gw c' b' s1 s2):Gw (c+c') (b+b') s s2:=⟨by have:=h.1;have:=k.1;omega,by have:=h.2;have:=k.2;omega⟩
theorem Gw.mono {c b c' b':Nat} {s s':CM} (h:Gw c b s s') (hc:c≤c') (hb:b≤b'):Gw c' b' s s':=⟨by have:=h.1;omega,by have:=h.2;omega⟩
theorem gw_add (s:CM) (k a:Int):Gw 1 0 s (s.add k a):=⟨by rw [add_len];exact Nat.le_refl _,Nat.le_refl _⟩
theorem gw_aim (s:CM) (i:Nat):Gw 0 0 s (s.aim i):=⟨by rw [aim_len];exact Nat.le_refl _,Nat.le_refl _⟩
theorem gw_land (s:CM) (i:Nat):Gw 0 0 s (s.land i):=⟨Nat.le_refl _,by rw [land_len];exact Nat.le_refl _⟩
theorem gw_aims (s:CM) (l:List Nat):Gw 0 0 s (s.aims l):=⟨by rw [(aims_spec l s).1];exact Nat.le_refl _,by rw [(aims_spec l s).2.1];exact Nat.le_refl _⟩
theorem exC_len:∀ e:PE,(exC e).length=sizeE e
 | .nil=>rfl
 | .num _=>rfl
 | .var _ _=>rfl
 | .pair _ a b=>by
  show (exC a++exC b++[_]).length=sizeE a+sizeE b+1
  rw [List.length_append,List.length_append,exC_len a,exC_len b]
  rfl
theorem gw_expr (e:PE) (h:sizeE e≤63) (s:CM):Gw 63 0 s (exprM e s):=by
 refine⟨by rw [expr_len,exC_len];omega,?_⟩
 rw [exprM_is]
 exact Nat.le_refl _
theorem gw_branch (n:PNode) (h:sizeE n.expr≤63) (s:CM):Gw 65 1 s (branchM n s):=by
 have h0:Gw 0 1 s { s with br:=s.br++[(n.cd,n.nd,0)] }:=⟨Nat.le_refl _,by simp⟩
 have h1:=gw_expr n.expr h { s with br:=s.br++[(n.cd,n.nd,0)] }
 unfold branchM
 dsimp only
 split
 ·exact (h0.trans (gw_add _ _ _)).mono (by omega) (by omega)
 ·exact ((((h0.trans h1).trans (gw_add _ _ _)).trans (gw_add _ _ _)).trans (gw_aim _ _)).mono (by omega) (by omega)
theorem gw_line (n:PNode) (h:sizeE n.expr≤63) (s:CM):Gw 67 1 s (lineM n s):=by
 have h0:=gw_add s 0 0
 have h1:=gw_expr n.expr h (s.add 0 0)
 have h2:=gw_branch n h (s.add 0 0)
 unfold lineM
 dsimp only
 split
 ·exact (h0.trans (gw_add _ _ _)).mono (by omega) (by omega)
 ·split
  ·exact ((h0.trans h1).trans (gw_add _ _ _)).mono (by omega) (by omega)
  ·split
   ·exact ((h0.trans h1).trans (gw_add _ _ _)).mono (by omega) (by omega)
   ·split
    ·split
     ·exact ((h0.trans h1).trans (gw_add _ _ _)).mono (by omega) (by omega)
     ·exact ((h0.trans h1).trans (gw_add _ _ _)).mono (by omega) (by omega)
    ·split
     ·exact (((h0.trans h2).trans (gw_add _ _ _)).trans (gw_land _ _)).mono (by omega) (by omega)
     ·exact h0.mono (by omega) (by omega)
theorem gw_fold {α β:Type} (E:Nat->Nat) (c:Nat) (m:α->CM) (g:α->β->α) (ix:β->Nat):∀ (l:List β) (x:α),(∀ b∈l,∀ x,Gw (c * (E (ix b) - ix b)) (E (ix b) - ix b) (m x) (m (g x b)))->Gw (c * wsum E (l.map ix)) (wsum E (l.map ix)) (m x) (m (l.foldl g x))
 | [],x,_=>⟨by simp,by simp⟩
 | b :: l,x,h=>by
  have h1:=h b (by simp) x
  have h2:=gw_fold E c m g ix l (g x b) (fun b' hb'=>h b' (by simp [hb']))
  have e:wsum E ((b :: l).map ix)=(E (ix b) - ix b)+wsum E (l.map ix):=rfl
  rw [e,Nat.mul_add]
  exact h1.trans h2
theorem gw_proc {T:List PNode} {E:Nat->Nat} (hrow:∀ i,i<T.length->KRow E (i+1) (T.getD i default).kids (E i)) (htop:∀ i,i<T.length->E i≤T.length) (hsz:∀ i,sizeE (T.getD i default).expr≤63) :
  ∀ f i s,i<T.length->Gw (200 * (E i - i) - 100) (E i - i) s (procM T f i s)
 | 0,i,s,_=>⟨by show s.code.length≤_;omega,by show s.br.length≤_;omega⟩
 | f+1,i,s,hi=>by
  have hE:=wsum_row (hrow i hi)
  have hb:∀ j,j<T.length->∀ s,Gw (200 * (E j - j - 1)) (E j - j - 1) s (belowP T (procM T f) j s):=by
   intro j hj s
   have hEj:=wsum_row (hrow j hj)
   have:=gw_fold E 200 (fun s:CM=>s) (fun s k=>procM T f k s) (fun k=>k) (T.getD j default).kids s (fun k hk x=>by
    have hm:=(hrow j hj).mem k hk
    have:=htop j hj
    exact (gw_proc hrow htop hsz f k x (by omega)).mono (by omega) (Nat.le_refl _))
   rw [List.map_id'] at this
   rw [hEj.1] at this
   have e:E j - (j+1)=E j - j - 1:=by omega
   rw [e] at this
   exact this
  have hki:∀ k∈(T.getD i default).kids,k<T.length∧k<E k:=fun k hk=>by
   have hm:=(hrow i hi).mem k hk
   have:=htop i hi
   omega
  have e1:E i - (i+1)=E i - i - 1:=by omega
  have hw:wsum E (T.getD i default).kids=E i - i - 1:=by rw [hE.1,e1]
  rw [procM_eqn]
  dsimp only
  split
  ·exact (hb i hi s).mono (by omega) (by omega)
  ·split
   ·have hs:∀ r,Gw 0 0 s { s with room:=r }:=fun r=>⟨Nat.le_refl _,Nat.le_refl _⟩
    split
    ·exact (((hs _).trans (gw_add _ _ _)).trans (hb i hi _)).mono (by omega) (by omega)
    ·exact ((hs _).trans (hb i hi _)).mono (by omega) (by omega)
   ·split
    ·exact ((((((gw_add s 0 0).trans (gw_expr _ (hsz i) _)).trans (gw_add _ _ _)).trans (hb i hi _)).trans (gw_add _ _ _)).trans (gw_aim _ _)).mono (by omega) (by omega)
    ·split
     ·have:=gw_fold E 200 (fun q:CM×List Nat=>q.1) (whenM T (belowP T (procM T f))) (fun k=>k) (T.getD i default).kids (s.add 0 0,[]) (fun k hk x=>by
       have hk2:=hki k hk
       exact (((((gw_expr _ (hsz k) x.1).trans (gw_add _ _ _)).trans (hb k hk2.1 _)).trans (gw_add _ _ _)).trans (gw_aim _ _)).mono (by omega) (by omega))
      rw [List.map_id',hw] at this
      exact ((((gw_add s 0 0).trans this).trans (gw_add _ _ _)).trans (gw_aims _ _)).mono (by omega) (by omega)
     ·split
      ·have q1:Gw (65 * (T.getD i default).kids.length) (T.getD i default).kids.length (s.add 0 0) ((T.getD i default).kids.foldl (onM T) (s.add 0 0,[])).1:=by
        have:∀ (l:List Nat) (x:CM×List Nat),Gw (65 * l.length) l.length x.1 (l.foldl (onM T) x).1:=by
         intro l
         induction l with
         | nil=>intro x;exact⟨by simp,by simp⟩
         | cons k l ih =>
          intro x
          exact ((gw_branch _ (hsz k) x.1).trans (ih (onM T x k))).mono (by rw [List.length_cons];omega) (by rw [List.length_cons];omega)
        exact this _ _
       have kidn:∀ (l:List Nat),(∀ k∈l,k<E k)->l.length≤wsum E l:=by
        intro l
        induction l with
        | nil=>intro _;simp
        | cons k l ih =>
         intro h
         have:=ih (fun x hx=>h x (by simp [hx]))
         have:=h k (by simp)
         show l.length+1≤E k - k+wsum E l
         omega
       have kn:=kidn (T.getD i default).kids (fun k hk=>(hki k hk).2)
       generalize (T.getD i default).kids.foldl (onM T) (s.add 0 0,[])=q at *
       have q2:Gw (101 * wsum E (((T.getD i default).kids.zip q.2).map Prod.fst)) 0 (q.1.add 16 0) (q.1.add 16 0):=⟨by omega,by omega⟩
       have q3:∀ (l:List (Nat×Nat)) (x:CM×List Nat),(∀ kb∈l,kb.1<T.length∧kb.1<E kb.1)->(l.foldl (landsM (belowP T (procM T f))) x).1.code.length+199 * l.length≤x.1.code.length+200 * wsum E (l.map Prod.fst)∧(l.foldl (landsM (belowP T (procM T f))) x).1.br.length+l.length≤x.1.br.length+wsum E (l.map Prod.fst):=by
        intro l
        induction l with
        | nil=>intro x _;exact⟨by simp,by simp⟩
        | cons kb l ih =>
         intro x hx
         have h1:=hx kb (by simp)
         have h2:=((gw_land x.1 kb.2).trans (hb kb.1 h1.1 _)).trans (gw_add _ 19 0)
         have h3:=ih (landsM (belowP T (procM T f)) x kb) (fun y hy=>hx y (by simp [hy]))
         have e:wsum E ((kb :: l).map Prod.fst)=(E kb.1 - kb.1)+wsum E (l.map Prod.fst):=rfl
         have h4:(landsM (belowP T (procM T f)) x kb).1.code.length≤x.1.code.length+(0+200 * (E kb.1 - kb.1 - 1)+1):=h2.1
         have h5:(landsM (belowP T (procM T f)) x kb).1.br.length≤x.1.br.length+(0+(E kb.1 - kb.1 - 1)+0):=h2.2
         rw [List.foldl_cons,e,List.length_cons]
         omega
       have q4:=q3 ((T.getD i default).kids.zip q.2) (q.1.add 16 0,[]) (fun kb hkb=>hki kb.1 (List.of_mem_zip hkb).1)
       have q5:=wsum_zip E (T.getD i default).kids q.2
       have q6:=gw_add q.1 16 0
       have q7:=gw_add s 0 0
       have hz:((T.getD i default).kids.zip q.2).length+((T.getD i default).kids.length - q.2.length)=(T.getD i default).kids.length:=by rw [List.length_zip];omega
       have q8:=gw_aims (((T.getD i default).kids.zip q.2).foldl (landsM (belowP T (procM T f))) (q.1.add 16 0,[])).1 (((T.getD i default).kids.zip q.2).foldl (landsM (belowP T (procM T f))) (q.1.add 16 0,[])).2
       have hzw:wsum E (((T.getD i default).kids.zip q.2).map Prod.fst)+((T.getD i default).kids.length - q.2.length)≤wsum E (T.getD i default).kids:=by
        have:∀ (l l':List Nat),(∀ k∈l,k<E k)->wsum E ((l.zip l').map Prod.fst)+(l.length - l'.length)≤wsum E l:=by
         intro l
         induction l with
         | nil=>intro l' _;simp [wsum]
         | cons k l ih =>
          intro l' h
          cases l' with
          | nil =>
           have:=kidn (k :: l) h
           simpa [wsum] using this
          | cons x l' =>
           have:=ih l' (fun y hy=>h y (by simp [hy]))
           show E k - k+wsum E ((l.zip l').map Prod.fst)+(l.length+1 - (l'.length+1))≤E k - k+wsum E l
           omega
        exact this _ _ (fun k hk=>(hki k hk).2)
       refine⟨?_,?_⟩
       ·have a1:=q8.1;have a2:=q4.1;have a3:=q6.1;have a4:=q1.1;have a5:=q7.1
        dsimp only at a2
        omega
       ·have a1:=q8.2;have a2:=q4.2;have a3:=q6.2;have a4:=q1.2;have a5:=q7.2
        dsimp only at a2
        omega
      ·split
       ·rw [begins_is]
        dsimp only
        have hl:((s.add 0 0).code++(List.range (T.getD i default).kids.length).map (fun j=>((if decide ((T.getD i default).kind=9)=true∧j=0 then (22:Int) else 21),(0:Int)))).length=s.code.length+1+(T.getD i default).kids.length:=by
         rw [List.length_append,add_len,List.length_map,List.length_range]
        rw [hl]
        generalize hS:({ s.add 0 0 with code:=(s.add 0 0).code++(List.range (T.getD i default).kids.length).map (fun j=>((if decide ((T.getD i default).kind=9)=true∧j=0 then (22:Int) else 21),(0:Int))) }:CM)=s1
        have hs1:s1.code.length=s.code.length+1+(T.getD i default).kids.length:=by rw [<-hS];exact hl
        have hs2:s1.br=s.br:=by rw [<-hS];rfl
        clear hS hl
        generalize ([]++(List.range (T.getD i default).kids.length).map ((s.add 0 0).code.length+·))=ps
        have q3:∀ (l:List (Nat×Nat)) (x:CM),(∀ kb∈l,kb.1<T.length∧kb.1<E kb.1)->(l.foldl (begunM (procM T f)) x).code.length+99 * l.length≤x.code.length+200 * wsum E (l.map Prod.fst)∧(l.foldl (begunM (procM T f)) x).br.length≤x.br.length+wsum E (l.map Prod.fst):=by
         intro l
         induction l with
         | nil=>intro x _;exact⟨by simp,by simp⟩
         | cons kb l ih =>
          intro x hx
          have h1:=hx kb (by simp)
          have h2:=((gw_aim x kb.2).trans (gw_proc hrow htop hsz f kb.1 _ h1.1)).trans (gw_add _ 24 0)
          have h3:=ih (begunM (procM T f) x kb) (fun y hy=>hx y (by simp [hy]))
          have e:wsum E ((kb :: l).map Prod.fst)=(E kb.1 - kb.1)+wsum E (l.map Prod.fst):=rfl
          have h4:(begunM (procM T f) x kb).code.length≤x.code.length+(0+(200 * (E kb.1 - kb.1) - 100)+1):=h2.1
          have h5:(begunM (procM T f) x kb).br.length≤x.br.length+(0+(E kb.1 - kb.1)+0):=h2.2
          rw [List.foldl_cons,e,List.length_cons]
          omega
        have q4:=q3 ((T.getD i default).kids.zip ps) (s1.add 23 0) (fun kb hkb=>hki kb.1 (List.of_mem_zip hkb).1)
        have q5:=wsum_zip E (T.getD i default).kids ps
        have q6:=gw_add s1 23 0
        have kidn:∀ (l:List Nat),(∀ k∈l,k<E k)->l.length≤wsum E l:=by
         intro l
         induction l with
         | nil=>intro _;simp
         | cons k l ih =>
          intro h
          have:=ih (fun x hx=>h x (by simp [hx]))
          have:=h k (by simp)
          show l.length+1≤E k - k+wsum E l
          omega
        have hzw:200 * wsum E (((T.getD i default).kids.zip ps).map Prod.fst)+(T.getD i default).kids.length≤200 * wsum E (T.getD i default).kids+99 * ((T.getD i default).kids.zip ps).length:=by
         have:∀ (l l':List Nat),(∀ k∈l,k<E k)->200 * wsum E ((l.zip l').map Prod.fst)+l.length≤200 * wsum E l+99 * (l.zip l').length:=by
          intro l
          induction l with
          | nil=>intro l' _;simp [wsum]
          | cons k l ih =>
           intro l' h
           cases l' with
           | nil =>
            have:=kidn (k :: l) h
            have e:wsum E (((k :: l).zip ([]:List Nat)).map Prod.fst)=0:=rfl
            have e2:((k :: l).zip ([]:List Nat)).length=0:=rfl
            rw [e,e2]
            omega
           | cons x l' =>
            have:=ih l' (fun y hy=>h y (by simp [hy]))
            show 200 * (E k - k+wsum E ((l.zip l').map Prod.fst))+(l.length+1)≤200 * (E k - k+wsum E l)+99 * ((l.zip l').length+1)
            omega
         exact this _ _ (fun k hk=>(hki k hk).2)
        have q8:=gw_aim (((T.getD i default).kids.zip ps).foldl (begunM (procM T f)) (s1.add 23 0)) (s.code.length+1+(T.getD i default).kids.length)
        refine⟨?_,?_⟩
        ·have a1:=q8.1;have a2:=q4.1;have a3:=q6.1
         rw [hs1] at a3
         omega
        ·have a1:=q8.2;have a2:=q4.2;have a3:=q6.2
         rw [hs2] at a3
         omega
       ·exact (gw_line _ (hsz i) s).mono (by omega) (by omega)
end Go.Proofs.YtnhidaamfnjdjaaGreatDoor
namespace Go.Proofs.YtnhidaamfnjdjaaGreatDoor
open Go.RowKit Go.Maps
section
variable {T : List PNode}
structure Rm (T:List PNode) (a e:Nat) (s s':CM):Prop where
 up:s.room≤s'.room
 lo:∀ j,a≤j->j<e->(T.getD j default).kind=15∨(T.getD j default).kind=16->(T.getD j default).nd+1≤s'.room
 hi:∀ N,s.room≤N->(∀ j,(T.getD j default).nd<N)->s'.room≤N
theorem Rm.refl (a:Nat) (s:CM):Rm T a a s s:=⟨Int.le_refl _,fun j h1 h2=>by omega,fun _ h _=>h⟩
theorem Rm.trans {a b e:Nat} {s s1 s2:CM} (h:Rm T a b s s1) (k:Rm T b e s1 s2):Rm T a e s s2 where
 up:=Int.le_trans h.up k.up
 lo:=fun j h1 h2 hd=>by
  by_cases hb:j<b
  ·have:=h.lo j h1 hb hd
   have:=k.up
   omega
  ·exact k.lo j (by omega) h2 hd
 hi:=fun N h1 h2=>k.hi N (h.hi N h1 h2) h2
theorem Rm.keep {a e:Nat} {s s1 s2:CM} (h:Rm T a e s s1) (k:s2.room=s1.room):Rm T a e s s2:=⟨by rw [k];exact h.up,fun j x y z=>by rw [k];exact h.lo j x y z,fun N x y=>by rw [k];exact h.hi N x y⟩
theorem Rm.keepl {a e:Nat} {s s1 s2:CM} (h:Rm T a e s1 s2) (k:s1.room=s.room):Rm T a e s s2:=⟨by rw [<-k];exact h.up,h.lo,fun N x y=>h.hi N (by rw [k];exact x) y⟩
theorem Rm.one {i e:Nat} {s s':CM} (h:Rm T (i+1) e s s') (hk:(T.getD i default).kind≠15∧(T.getD i default).kind≠16):Rm T i e s s':=⟨h.up,fun j h1 h2 hd=>by
 by_cases e1:j=i
 ·subst e1;omega
 ·exact h.lo j (by omega) h2 hd,h.hi⟩
theorem Rm.fold {α β:Type} {E:Nat->Nat} (m:α->CM) (g:α->β->α) (ix:β->Nat):∀ (l:List β) (a e:Nat) (x:α),KRow E a (l.map ix) e->(∀ b∈l,∀ x,Rm T (ix b) (E (ix b)) (m x) (m (g x b)))->Rm T a e (m x) (m (l.foldl g x))
 | [],a,e,x,h,_=>by
  have h:a=e:=h
  subst h
  exact Rm.refl _ _
 | b :: l,a,e,x,h,hb=>by
  obtain⟨h1,h2,h3⟩:=h
  have h1:ix b=a:=h1
  have q:=hb b (by simp) x
  rw [h1] at q
  have h3':KRow E (E a) (l.map ix) e:=by rw [<-h1];exact h3
  exact q.trans (Rm.fold m g ix l (E a) e (g x b) h3' (fun b' hb'=>hb b' (by simp [hb'])))
theorem aim_room (s:CM) (i:Nat):(s.aim i).room=s.room:=rfl
theorem aims_room:∀ (l:List Nat) (s:CM),(s.aims l).room=s.room
 | [],_=>rfl
 | i :: l,s=>aims_room l (s.aim i)
theorem expr_room (e:PE) (s:CM):(exprM e s).room=s.room:=by rw [exprM_is]
theorem branch_room (n:PNode) (s:CM):(branchM n s).room=s.room:=by
 unfold branchM
 dsimp only
 split
 ·rfl
 ·show (exprM _ _).room=_
  rw [expr_room]
theorem line_room (n:PNode) (s:CM):(lineM n s).room=s.room:=by
 unfold lineM
 dsimp only
 repeat (split;·first|rfl|exact expr_room _ _|exact branch_room _ _)
 split
 ·first|rfl|exact expr_room _ _|exact branch_room _ _|(split <;> exact expr_room _ _)
 ·split
  ·first|rfl|exact expr_room _ _|exact branch_room _ _
  ·rfl
theorem opens_room (l:List Nat):∀ q:CM×List Nat,(l.foldl (onM T) q).1.room=q.1.room∧(l.foldl (onM T) q).2.length=q.2.length+l.length:=by
 induction l with
 | nil=>intro q;exact⟨rfl,rfl⟩
 | cons k l ih =>
  intro q
  have:=ih (onM T q k)
  rw [List.foldl_cons]
  refine⟨this.1.trans (branch_room _ _),?_⟩
  rw [this.2]
  show (q.2++[_]).length+l.length=_
  rw [List.length_append]
  show q.2.length+1+l.length=q.2.length+(l.length+1)
  omega
theorem rm_proc {E:Nat->Nat} (wf:WfT T) (hrow:∀ i,i<T.length->KRow E (i+1) (T.getD i default).kids (E i)) (htop:∀ i,i<T.length->E i≤T.length) :
  ∀ f i s,i<T.length->T.length≤i+f->procK (T.getD i default).kind->Rm T i (E i) s (procM T f i s)
 | 0,i,s,hi,hf,_=>by omega
 | f+1,i,s,hi,hf,hpk=>by
  have hb:∀ j,j<T.length->i≤j->(T.getD j default).kind≠11->(T.getD j default).kind≠13->∀ s,Rm T (j+1) (E j) s (belowP T (procM T f) j s):=by
   intro j hj hij n11 n13 s
   refine Rm.fold (fun s:CM=>s) (fun s k=>procM T f k s) (fun k=>k) (T.getD j default).kids (j+1) (E j) s (by rw [List.map_id'];exact hrow j hj) (fun k hk x=>?_)
   have hm:=(hrow j hj).mem k hk
   have:=htop j hj
   exact rm_proc wf hrow htop f k x (by omega) (by omega) (wf.kids j hj n11 n13 k hk)
  have hki:∀ k∈(T.getD i default).kids,k<T.length∧i<k:=fun k hk=>by
   have hm:=(hrow i hi).mem k hk
   have:=htop i hi
   omega
  rw [procM_eqn]
  dsimp only
  split
  ·rename_i h7
   exact (hb i hi (Nat.le_refl _) (by omega) (by omega) s).one (by omega)
  ·split
   ·rename_i h15
    have key:∀ s1:CM,s1.room=max s.room ((T.getD i default).nd+1)->Rm T i (E i) s (belowP T (procM T f) i s1):=by
     intro s1 hs1
     have:=hb i hi (Nat.le_refl _) (by omega) (by omega) s1
     have hu:=this.up
     rw [hs1] at hu
     refine⟨by omega,fun j h1 h2 hd=>?_,fun N h1 h2=>this.hi N (by rw [hs1];have:=h2 i;omega) h2⟩
     by_cases e1:j=i
     ·subst e1;omega
     ·exact this.lo j (by omega) h2 hd
    split
    ·exact key _ rfl
    ·exact key _ rfl
   ·rename_i h15
    split
    ·rename_i h10
     have q:=hb i hi (Nat.le_refl _) (by omega) (by omega) ((exprM (T.getD i default).expr (s.add 0 0)).add 18 0)
     have q2:Rm T (i+1) (E i) s (belowP T (procM T f) i ((exprM (T.getD i default).expr (s.add 0 0)).add 18 0)):=q.keepl (by show (exprM _ _).room=_;rw [expr_room];rfl)
     exact Rm.one (Rm.keep q2 rfl) (by omega)
    ·split
     ·rename_i h11
      have:=Rm.fold (T:=T) (E:=E) (fun q:CM×List Nat=>q.1) (whenM T (belowP T (procM T f))) (fun k=>k) (T.getD i default).kids (i+1) (E i) (s.add 0 0,[]) (by rw [List.map_id'];exact hrow i hi) (fun k hk x=>by
       have hk2:=hki k hk
       have hw:=wf.whens i hi h11 k hk
       have q:=hb k hk2.1 (by omega) (by omega) (by omega) ((exprM (T.getD k default).expr x.1).add 18 0)
       have q2:Rm T (k+1) (E k) x.1 (belowP T (procM T f) k ((exprM (T.getD k default).expr x.1).add 18 0)):=q.keepl (by show (exprM _ _).room=_;rw [expr_room])
       exact Rm.one (Rm.keep q2 rfl) (by omega))
      have q2:Rm T (i+1) (E i) s _:=this.keepl rfl
      exact Rm.one (Rm.keep q2 (by rw [aims_room];rfl)) (by omega)
     ·split
      ·rename_i h13
       have ho:=opens_room (T:=T) (T.getD i default).kids (s.add 0 0,[])
       generalize (T.getD i default).kids.foldl (onM T) (s.add 0 0,[])=q at *
       obtain⟨o1,o2⟩:=ho
       have:=Rm.fold (T:=T) (E:=E) (fun q:CM×List Nat=>q.1) (landsM (belowP T (procM T f))) Prod.fst ((T.getD i default).kids.zip q.2) (i+1) (E i) (q.1.add 16 0,[]) (by
        rw [List.map_fst_zip (by rw [o2];simp)]
        exact hrow i hi) (fun kb hkb x=>by
        have hk:=(List.of_mem_zip hkb).1
        have hk2:=hki kb.1 hk
        have hw:=wf.ons i hi h13 kb.1 hk
        have q:=hb kb.1 hk2.1 (by omega) (by omega) (by omega) (x.1.land kb.2)
        have q2:Rm T (kb.1+1) (E kb.1) x.1 (belowP T (procM T f) kb.1 (x.1.land kb.2)):=q.keepl rfl
        exact Rm.one (Rm.keep q2 rfl) (by omega))
       have q2:Rm T (i+1) (E i) s _:=this.keepl (by show q.1.room=_;rw [o1];rfl)
       exact Rm.one (Rm.keep q2 (by rw [aims_room])) (by omega)
      ·split
       ·rename_i h8
        rw [begins_is]
        dsimp only
        have:=Rm.fold (T:=T) (E:=E) (fun s:CM=>s) (begunM (procM T f)) Prod.fst ((T.getD i default).kids.zip ([]++(List.range (T.getD i default).kids.length).map ((s.add 0 0).code.length+·))) (i+1) (E i) (({ s.add 0 0 with code:=(s.add 0 0).code++(List.range (T.getD i default).kids.length).map (fun j=>((if decide ((T.getD i default).kind=9)=true∧j=0 then (22:Int) else 21),(0:Int))) }:CM).add 23 0) (by
         rw [List.map_fst_zip (by rw [List.nil_append,List.length_map,List.length_range];exact Nat.le_refl _)]
         exact hrow i hi) (fun kb hkb x=>by
         have hk:=(List.of_mem_zip hkb).1
         have hk2:=hki kb.1 hk
         have q:=rm_proc wf hrow htop f kb.1 (x.aim kb.2) hk2.1 (by omega) (wf.kids i hi (by omega) (by omega) kb.1 hk)
         have q2:Rm T kb.1 (E kb.1) x (procM T f kb.1 (x.aim kb.2)):=q.keepl rfl
         exact Rm.keep q2 rfl)
        have q2:Rm T (i+1) (E i) s _:=this.keepl rfl
        exact Rm.one (Rm.keep q2 rfl) (by omega)
       ·rename_i h8
        have hk:=(hrow i hi).le
        have hn:∀ j,i+1≤j->j<E i->False:=by
         intro j h1 h2
         unfold procK at hpk
         have hnil:=wf.leaf i hi (by omega) (by omega)
         have hrw:=hrow i hi
         rw [hnil] at hrw
         have hrw:i+1=E i:=hrw
         omega
        exact (⟨by rw [line_room];exact Int.le_refl _,fun j h1 h2=>(hn j h1 h2).elim,fun N h1 _=>by rw [line_room];exact h1⟩:Rm T (i+1) (E i) s (lineM (T.getD i default) s)).one (by omega)
end
end Go.Proofs.YtnhidaamfnjdjaaGreatDoor
namespace Go.Proofs.YtnhidaamfnjdjaaGreatDoor
open Go.RowKit Go.Maps
theorem from_n {N:Int} {f:RS->PE×RS} (hf:∀ σ,(f σ).1.InN N) (p:PE×RS) (hp:p.1.InN N):(fromF f p).1.InN N:=by
 unfold fromF;split
 ·exact⟨hp,hf _⟩
 ·exact hp
section
variable {N : Int} (h0 : 0 < N)
include h0
theorem zN:0≤(0:Int)∧(0:Int)<N:=⟨by omega,h0⟩
theorem leaf_n (σ:RS):(leafF σ).1.InN N:=by
 unfold leafF;split
 ·trivial
 ·exact zN h0
theorem operand_n:∀ (n:Nat) (σ:RS),(operandF n σ).1.InN N
 | 0,σ=>by
  unfold operandF;split
  ·trivial
  ·exact leaf_n h0 σ
 | n+1,σ=>by
  unfold operandF;split
  ·exact from_n (operand_n n) _ (operand_n n _)
  ·exact leaf_n h0 σ
theorem expr_n (n:Nat) (σ:RS):(exprF n σ).1.InN N:=from_n (operand_n h0 n) _ (operand_n h0 n _)
theorem line_n (body:Bs) (above:Int):(readLineF body above).1.expr.InN N:=by
 have ite:∀ {c:Prop} [Decidable c] {a b:LP×RS},a.1.expr.InN N->b.1.expr.InN N->(if c then a else b).1.expr.InN N:=by
  intro c _ a b ha hb
  split
  ·exact ha
  ·exact hb
 unfold readLineF lineF
 dsimp only
 refine ite (expr_n h0 _ _) (ite ?_ ?_)
 ·unfold branchF
  exact ite trivial (ite (expr_n h0 _ _) (ite trivial (from_n (operand_n h0 4) _ (zN h0))))
 ·unfold processF
  refine ite trivial (ite trivial (ite trivial (ite trivial (ite trivial (ite trivial (ite trivial (ite (expr_n h0 _ _) (ite (expr_n h0 _ _) (ite trivial (ite trivial (ite trivial (ite (expr_n h0 _ _) ?_))))))))))))
  unfold onNameF
  exact ite (expr_n h0 _ _) (ite (expr_n h0 _ _) trivial)
theorem upTo_zero (ls:List Bs):∀ k,∀ i,NInN N ((upTo ls k).at i)
 | 0=>by
  intro i
  unfold PS.at upTo startP
  cases i with
  | zero=>exact⟨zN h0,zN h0,trivial⟩
  | succ i=>exact NInN.dflt h0
 | k+1=>by
  have ih:=upTo_zero ls k
  intro i
  show NInN N (((upTo ls k).add _ _).1.at i)
  generalize upTo ls k=s at ih
  unfold PS.add
  split
  ·exact ih i
  ·split
   ·exact ih i
   ·split
    ·exact ih i
    ·dsimp only
     split
     ·exact ih i
     ·generalize hd:(List.length (ls.getD k []) - List.length (trimB (ls.getD k []))) / 2=d at *
      rcases Nat.lt_trichotomy i s.nodes.length with h|h|h
      ·rw [put_old _ _ _ _ _ h]
       split
       ·have:=ih (s.above d)
        exact⟨this.nd,this.cd,this.expr⟩
       ·exact ih i
      ·rw [h,put_new]
       exact⟨zN h0,zN h0,line_n h0 _ _⟩
      ·unfold PS.at
       rw [getD_ge _ _ _ (by rw [put_len];omega)]
       exact NInN.dflt h0
end
structure TextOk (T:List PNode) (r n:Nat) (E:Nat->Nat):Prop where
 wf:WfT T
 root:r<T.length
 rk:procK (T.getD r default).kind
 few:T.length≤802
 room:(makeF T r).room=n
 n3:3≤n
 n2:n≤2000
 inr:∀ i,NInN n (T.getD i default)
 code:(makeF T r).code.length≤200000
 br:(makeF T r).br.length≤200000
 size:∀ i,sizeE (T.getD i default).expr≤63
 row:∀ i,i<T.length->KRow E (i+1) (T.getD i default).kids (E i)
 top:∀ i,i<T.length->E i≤T.length
theorem text_all (text:Bs) (s:PS) (hs:(parseF text (linesF text)).1=some s):∃ n E,TextOk (namedF s).2 (rootOf s) n E:=by
 obtain⟨wf,hroot,hrk,hfew⟩:=text_wf text s hs
 obtain⟨hl,he,hc⟩:=parseF_done_iff _ _ _ hs
 have hin:=upTo_in (linesF text) (linesF text).length
 have hz:∀ i,NInN 3 (s.at i):=by rw [he];exact upTo_zero (by decide) _ _
 have hszz:∀ i,sizeE (s.at i).expr≤63:=by rw [he];exact upTo_sz _ _
 obtain⟨E,par,hw⟩:=upTo_walked (linesF text) (linesF text).length
 rw [<-he] at hin hw
 have hsh:=(nameF_keep s.nodes.length (startR,s.nodes) (rootOf s)).1
 have hsx:=nameF_x s.nodes.length (startR,s.nodes) (rootOf s)
 have hE:=hw.top _ hroot
 have hn:∀ i,NIn (s.nodes.getD i default):=by
  intro i
  rcases Nat.lt_or_ge i s.nodes.length with x|x
  ·rw [getD_lt _ _ _ x];exact hin _ (List.getElem_mem x)
  ·rw [getD_ge _ _ _ x];exact NIn.dflt
 have st0:StIn (startR,s.nodes):=⟨hn,by
  intro d hd
  simp only [startR,List.mem_cons,List.not_mem_nil,or_false] at hd
  rcases hd with rfl|rfl
  ·exact⟨by decide,by decide⟩
  ·exact⟨by decide,by decide⟩,by show (0:Int)≤3;decide⟩
 have hlim:(startR,s.nodes).1.next+((E (rootOf s):Int) - (rootOf s:Int))≤2000:=by show (3:Int)+_≤2000;omega
 have g1:=nameF_in s.nodes E hw.row hw.top s.nodes.length (startR,s.nodes) (rootOf s) (SameShape.refl _) hroot st0 hlim
 have g2:=nameF_all s.nodes E hw.row hw.top s.nodes.length (startR,s.nodes) (rootOf s) (SameShape.refl _) hroot st0 hlim
 have e0:nameF s.nodes.length (startR,s.nodes) (rootOf s)=namedF s:=rfl
 rw [e0] at g1 g2 hsh hsx
 have hsh:SameShape s.nodes (namedF s).2:=hsh
 have hsx:SameX s.nodes (namedF s).2:=hsx
 have hlen:=hsh.len
 have wf2:=wf.shape hsh hsx
 have hmono:(3:Int)≤(namedF s).1.next:=g2.mono
 have hmax:(namedF s).1.next≤2000:=by
  have:=g1.2
  have h3:(startR,s.nodes).1.next=3:=rfl
  rw [h3] at this
  omega
 have hrow2:∀ i,i<(namedF s).2.length->KRow E (i+1) ((namedF s).2.getD i default).kids (E i):=fun i hi=>by rw [hsh.kids];exact hw.row i (by omega)
 have htop2:∀ i,i<(namedF s).2.length->E i≤(namedF s).2.length:=fun i hi=>by rw [hlen];exact hw.top i (by omega)
 have hst:StB (namedF s).1.next (startR,s.nodes):=by
  refine⟨fun i=>?_,?_⟩
  ·have:=upTo_zero (N:=(namedF s).1.next) (by omega) (linesF text) (linesF text).length i
   rw [<-he] at this
   exact this
  ·intro d hd
   simp only [startR,List.mem_cons,List.not_mem_nil,or_false] at hd
   rcases hd with rfl|rfl
   ·exact⟨by decide,by show (1:Int)<_;omega⟩
   ·exact⟨by decide,by show (2:Int)<_;omega⟩
 have hrange:=g2.range _ hmono hst (Int.le_refl _)
 have hsz2:∀ i,sizeE ((namedF s).2.getD i default).expr≤63:=fun i=>by rw [(hsx i).2.1];exact hszz i
 have hpk2:procK ((namedF s).2.getD (rootOf s) default).kind:=by rw [hsh.kind];exact hrk
 have hr2:rootOf s<(namedF s).2.length:=by omega
 have rm:=rm_proc (E:=E) wf2 hrow2 htop2 (namedF s).2.length (rootOf s) ⟨[],[],3⟩ hr2 (by omega) hpk2
 have gw:=gw_proc hrow2 htop2 hsz2 (namedF s).2.length (rootOf s) ⟨[],[],3⟩ hr2
 have hroomE:(makeF (namedF s).2 (rootOf s)).room=(procM (namedF s).2 (namedF s).2.length (rootOf s) ⟨[],[],3⟩).room:=rfl
 have hcodeE:(makeF (namedF s).2 (rootOf s)).code.length=(procM (namedF s).2 (namedF s).2.length (rootOf s) ⟨[],[],3⟩).code.length+1:=add_len _ _ _
 have hbrE:(makeF (namedF s).2 (rootOf s)).br=(procM (namedF s).2 (namedF s).2.length (rootOf s) ⟨[],[],3⟩).br:=rfl
 have hroom:(makeF (namedF s).2 (rootOf s)).room=(namedF s).1.next:=by
  rw [hroomE]
  have hu:(3:Int)≤(procM (namedF s).2 (namedF s).2.length (rootOf s) ⟨[],[],3⟩).room:=rm.up
  have hh:=rm.hi (namedF s).1.next hmono (fun j=>(hrange.nodes j).nd.2)
  rcases g2.last with e1|⟨j,j1,j2,j3,j4⟩
  ·have e1:(namedF s).1.next=3:=e1
   omega
  ·have:=rm.lo j j1 j2 j3
   omega
 have gw1:=gw.1
 have gw2:=gw.2
 simp only [List.length_nil,Nat.zero_add] at gw1 gw2
 refine⟨(namedF s).1.next.toNat,E,⟨wf2,hr2,hpk2,by omega,by rw [hroom];omega,by omega,by omega,fun i=>?_,by rw [hcodeE];omega,by rw [hbrE];omega,hsz2,hrow2,htop2⟩⟩
 rw [show (((namedF s).1.next.toNat:Nat):Int)=(namedF s).1.next by omega]
 exact hrange.nodes i
end Go.Proofs.YtnhidaamfnjdjaaGreatDoor
