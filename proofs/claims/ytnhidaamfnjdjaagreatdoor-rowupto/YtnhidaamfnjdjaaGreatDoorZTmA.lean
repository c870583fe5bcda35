import Derived.Test.YtnhidaamfnjdjaaGreatDoorZPure
namespace Go.Proofs.YtnhidaamfnjdjaaGreatDoor
open Go.RowKit Go.Maps
def Has {α:Type} (K:List α) (a:Nat) (X:List α):Prop:=∀ j,j<X.length->K[a+j]?=X[j]?
theorem has_nil {α:Type} (K:List α) (a:Nat):Has K a []:=fun j h=>by simp at h
theorem has_append {α:Type} {K:List α} {a:Nat} {X Y:List α}:Has K a (X++Y)↔Has K a X∧Has K (a+X.length) Y:=by
 constructor
 ·intro h
  refine⟨fun j hj=>?_,fun j hj=>?_⟩
  ·rw [h j (by rw [List.length_append];omega),List.getElem?_append_left hj]
  ·have:=h (X.length+j) (by rw [List.length_append];omega)
   rw [List.getElem?_append_right (by omega),Nat.add_sub_cancel_left] at this
   rw [<-this,Nat.add_assoc]
 ·rintro⟨h1,h2⟩ j hj
  rw [List.length_append] at hj
  by_cases hx:j<X.length
  ·rw [h1 j hx,List.getElem?_append_left hx]
  ·have:=h2 (j - X.length) (by omega)
   rw [List.getElem?_append_right (by omega),<-this]
   congr 1
   omega
theorem has_one {α:Type} {K:List α} {a:Nat} {x:α}:Has K a [x]↔K[a]?=some x:=by
 constructor
 ·intro h
  simpa using h 0 (by simp)
 ·intro h j hj
  have:j=0:=by simpa using hj
  subst this
  simpa using h
theorem has_cons {α:Type} {K:List α} {a:Nat} {x:α} {X:List α}:Has K a (x :: X)↔K[a]?=some x∧Has K (a+1) X:=by
 have:x :: X=[x]++X:=rfl
 rw [this,has_append,has_one]
 rfl
theorem has_self {α:Type} (A X:List α):Has (A++X) A.length X:=fun j _=>by
 rw [List.getElem?_append_right (by omega),Nat.add_sub_cancel_left]
inductive ExS (K:List (Int×Int)):PE->Nat->Nat->Prop
 | num {v:Int} {a:Nat}:K[a]?=some (1,v)->ExS K (.num v) a (a+1)
 | var {n:Bs} {d:Int} {a:Nat}:K[a]?=some (2,d)->ExS K (.var n d) a (a+1)
 | pair {op:UInt8} {l r:PE} {a b c:Nat}:ExS K l a b->ExS K r b c->K[c]?=some (opK op,0)->ExS K (.pair op l r) a (c+1)
inductive BrS (K:List (Int×Int)) (n:PNode) (j:Nat):Nat->Nat->Prop
 | free {a:Nat}:n.expr=.nil->K[a]?=some (15,(j:Int))->BrS K n j a (a+1)
 | ask {a c:Nat}:n.expr≠.nil->ExS K n.expr a c->K[c]?=some (18,((c+2:Nat):Int))->K[c+1]?=some (15,(j:Int))->BrS K n j a (c+2)
inductive Job where
 | node (i:Nat)
 | nodes (l:List Nat)
 | whens (l:List Nat) (leave:Nat)
 | opens (l:List (Nat×Nat))
 | lands (l:List (Nat×Nat)) (leave:Nat)
 | begun (l:List (Nat×Nat))
section
variable (T : List PNode) (K : List (Int × Int)) (B : List (Int × Int × Int))
inductive Seg:Job->Nat->Nat->Prop
 | skip {i a:Nat}:(T.getD i default).kind=1->K[a]?=some (0,0)->Seg (.node i) a (a+1)
 | stop {i a:Nat}:(T.getD i default).kind=2->K[a]?=some (0,0)->K[a+1]?=some (20,0)->Seg (.node i) a (a+2)
 | becomes {i a c:Nat}:(T.getD i default).kind=3->K[a]?=some (0,0)->ExS K (T.getD i default).expr (a+1) c->K[c]?=some (12,(T.getD i default).nd)->Seg (.node i) a (c+1)
 | out {i a c:Nat}:(T.getD i default).kind=4->(T.getD i default).cd=2->K[a]?=some (0,0)->ExS K (T.getD i default).expr (a+1) c->K[c]?=some (13,0)->Seg (.node i) a (c+1)
 | write {i a c:Nat}:(T.getD i default).kind=4->(T.getD i default).cd≠2->K[a]?=some (0,0)->ExS K (T.getD i default).expr (a+1) c->K[c]?=some (14,(T.getD i default).cd)->Seg (.node i) a (c+1)
 | read {i a c j:Nat}:(T.getD i default).kind=5->K[a]?=some (0,0)->BrS K (T.getD i default) j (a+1) c->K[c]?=some (16,0)->B[j]?=some ((T.getD i default).cd,(T.getD i default).nd,((c+1:Nat):Int))->Seg (.node i) a (c+1)
 | wait {i a c:Nat}:(T.getD i default).kind=6->K[a]?=some (0,0)->ExS K (T.getD i default).expr (a+1) c->K[c]?=some (17,0)->Seg (.node i) a (c+1)
 | seq {i a b:Nat}:(T.getD i default).kind=7->Seg (.nodes (T.getD i default).kids) a b->Seg (.node i) a b
 | beside {i a b:Nat} {l:List Nat}:((T.getD i default).kind=8∨(T.getD i default).kind=9)->K[a]?=some (0,0)->l.length=(T.getD i default).kids.length ->
   (∀ j,j<l.length->K[a+1+j]?=some ((if (T.getD i default).kind=9∧j=0 then 22 else 21),((l.getD j 0:Nat):Int)))->K[a+1+l.length]?=some (23,(b:Int)) ->
   Seg (.begun ((T.getD i default).kids.zip l)) (a+2+l.length) b->Seg (.node i) a b
 | loop {i a c d:Nat}:(T.getD i default).kind=10->K[a]?=some (0,0)->ExS K (T.getD i default).expr (a+1) c->K[c]?=some (18,((d+1:Nat):Int))->Seg (.nodes (T.getD i default).kids) (c+1) d->K[d]?=some (19,(a:Int))->Seg (.node i) a (d+1)
 | choice {i a c:Nat}:(T.getD i default).kind=11->K[a]?=some (0,0)->Seg (.whens (T.getD i default).kids (c+1)) (a+1) c->K[c]?=some (20,0)->Seg (.node i) a (c+1)
 | alt {i a c b:Nat} {l:List Nat}:(T.getD i default).kind=13->K[a]?=some (0,0)->l.length=(T.getD i default).kids.length->Seg (.opens ((T.getD i default).kids.zip l)) (a+1) c->K[c]?=some (16,0)->Seg (.lands ((T.getD i default).kids.zip l) b) (c+1) b->Seg (.node i) a b
 | var {i a b:Nat}:(T.getD i default).kind=15->K[a]?=some (11,(T.getD i default).nd)->Seg (.nodes (T.getD i default).kids) (a+1) b->Seg (.node i) a b
 | chan {i a b:Nat}:(T.getD i default).kind=16->Seg (.nodes (T.getD i default).kids) a b->Seg (.node i) a b
 | nil {a:Nat}:Seg (.nodes []) a a
 | cons {k a b c:Nat} {l:List Nat}:Seg (.node k) a b->Seg (.nodes l) b c->Seg (.nodes (k :: l)) a c
 | wnil {a lv:Nat}:Seg (.whens [] lv) a a
 | wcons {k a c d b lv:Nat} {l:List Nat}:ExS K (T.getD k default).expr a c->K[c]?=some (18,((d+1:Nat):Int))->Seg (.nodes (T.getD k default).kids) (c+1) d->K[d]?=some (19,(lv:Int))->Seg (.whens l lv) (d+1) b->Seg (.whens (k :: l) lv) a b
 | onil {a:Nat}:Seg (.opens []) a a
 | ocons {k j a b c:Nat} {l:List (Nat×Nat)}:BrS K (T.getD k default) j a b->Seg (.opens l) b c->Seg (.opens ((k,j) :: l)) a c
 | lnil {a lv:Nat}:Seg (.lands [] lv) a a
 | lcons {k j a d b lv:Nat} {l:List (Nat×Nat)}:B[j]?=some ((T.getD k default).cd,(T.getD k default).nd,(a:Int))->Seg (.nodes (T.getD k default).kids) a d->K[d]?=some (19,(lv:Int))->Seg (.lands l lv) (d+1) b->Seg (.lands ((k,j) :: l) lv) a b
 | bnil {a:Nat}:Seg (.begun []) a a
 | bcons {k a d b:Nat} {l:List (Nat×Nat)}:Seg (.node k) a d->K[d]?=some (24,0)->Seg (.begun l) (d+1) b->Seg (.begun ((k,a) :: l)) a b
end
def exC:PE->List (Int×Int)
 | .nil=>[]
 | .num v=>[(1,v)]
 | .var _ d=>[(2,d)]
 | .pair op l r=>exC l++exC r++[(opK op,0)]
theorem exprM_is:∀ (e:PE) (s:CM),exprM e s={ s with code:=s.code++exC e }
 | .nil,s=>by simp [exprM,exC]
 | .num v,s=>rfl
 | .var n d,s=>rfl
 | .pair op l r,s=>by
  show (exprM r (exprM l s)).add (opK op) 0=_
  rw [exprM_is l,exprM_is r]
  simp [CM.add,exC]
theorem exS_of {K:List (Int×Int)}:∀ (e:PE),fullE e=true->∀ a,Has K a (exC e)->ExS K e a (a+(exC e).length)
 | .nil,h,_,_=>by simp [fullE] at h
 | .num v,_,a,h=>.num (has_one.1 h)
 | .var n d,_,a,h=>.var (has_one.1 h)
 | .pair op l r,hf,a,h=>by
  have hf:fullE l=true∧fullE r=true:=by simpa [fullE] using hf
  have h:Has K a (exC l++exC r++[(opK op,0)]):=h
  rw [has_append,has_append,has_one] at h
  obtain⟨⟨h1,h2⟩,h3⟩:=h
  have e1:=exS_of l hf.1 a h1
  have e2:=exS_of r hf.2 _ h2
  have:=ExS.pair (op:=op) e1 e2 (by rw [<-h3,List.length_append,Nat.add_assoc])
  rw [show a+(exC (.pair op l r)).length=a+(exC l).length+(exC r).length+1 by simp [exC];omega]
  exact this
end Go.Proofs.YtnhidaamfnjdjaaGreatDoor
namespace Go.Proofs.YtnhidaamfnjdjaaGreatDoor
open Go.RowKit Go.Maps
def procK (k:Int):Prop:=1≤k∧k≤16∧k≠12∧k≠14
structure WfT (T:List PNode):Prop where
 up:∀ i k,k∈(T.getD i default).kids->i<k∧k<T.length
 kids:∀ i,i<T.length->(T.getD i default).kind≠11->(T.getD i default).kind≠13->∀ k∈(T.getD i default).kids,procK (T.getD k default).kind
 whens:∀ i,i<T.length->(T.getD i default).kind=11->∀ k∈(T.getD i default).kids,(T.getD k default).kind=12∧fullE (T.getD k default).expr=true
 ons:∀ i,i<T.length->(T.getD i default).kind=13->∀ k∈(T.getD i default).kids,(T.getD k default).kind=14∧((T.getD k default).expr=.nil∨fullE (T.getD k default).expr=true)
 asks:∀ i,i<T.length->(T.getD i default).kind=10->fullE (T.getD i default).expr=true
 line:∀ i,i<T.length->LineOk (T.getD i default)
 one:∀ i,i<T.length->((T.getD i default).kind=10∨(T.getD i default).kind=12∨(T.getD i default).kind=14∨(T.getD i default).kind=15∨(T.getD i default).kind=16)->(T.getD i default).kids.length=1
 leaf:∀ i,i<T.length->1≤(T.getD i default).kind->(T.getD i default).kind≤6->(T.getD i default).kids=[]
theorem getp {α:Type} {l l':List α} (h:l <+: l') {j:Nat} {x:α} (hx:l[j]?=some x):l'[j]?=some x:=by
 obtain⟨t,rfl⟩:=h
 have hj:j<l.length:=(List.getElem?_eq_some_iff.1 hx).1
 rw [List.getElem?_append_left hj];exact hx
theorem getp_lt {α:Type} {l l':List α} (h:l <+: l') {j:Nat} (hj:j<l.length):l'[j]?=l[j]?:=by
 obtain⟨t,rfl⟩:=h
 rw [List.getElem?_append_left hj]
structure On (s s':CM) (P:List (Int×Int)->List (Int×Int×Int)->Prop):Prop where
 pc:s.code <+: s'.code
 pb:s.br <+: s'.br
 so:∀ K B,(∀ j,s.code.length≤j->j<s'.code.length->K[j]?=s'.code[j]?)->(∀ j,s.br.length≤j->j<s'.br.length->B[j]?=s'.br[j]?)->P K B
theorem On.trans {s s1 s2:CM} {P Q R:List (Int×Int)->List (Int×Int×Int)->Prop} (h:On s s1 P) (k:On s1 s2 Q) (hR:∀ K B,P K B->Q K B->R K B):On s s2 R where
 pc:=h.pc.trans k.pc
 pb:=h.pb.trans k.pb
 so:=fun K B hK hB=>hR K B (h.so K B (fun j h1 h2=>by rw [hK j h1 (Nat.lt_of_lt_of_le h2 k.pc.length_le),getp_lt k.pc h2]) (fun j h1 h2=>by rw [hB j h1 (Nat.lt_of_lt_of_le h2 k.pb.length_le),getp_lt k.pb h2]))
  (k.so K B (fun j h1 h2=>hK j (Nat.le_trans h.pc.length_le h1) h2) (fun j h1 h2=>hB j (Nat.le_trans h.pb.length_le h1) h2))
theorem On.mono {s s':CM} {P Q:List (Int×Int)->List (Int×Int×Int)->Prop} (h:On s s' P) (hq:∀ K B,P K B->Q K B):On s s' Q:=⟨h.pc,h.pb,fun K B a b=>hq K B (h.so K B a b)⟩
theorem On.add (s:CM) (k a:Int):On s (s.add k a) (fun K _=>K[s.code.length]?=some (k,a)) where
 pc:=⟨[(k,a)],rfl⟩
 pb:=⟨[],by simp [CM.add]⟩
 so:=fun K B hK _=>by
  rw [hK s.code.length (Nat.le_refl _) (by simp [CM.add])]
  simp [CM.add]
theorem add_len (s:CM) (k a:Int):(s.add k a).code.length=s.code.length+1:=by simp [CM.add]
theorem expr_len (e:PE) (s:CM):(exprM e s).code.length=s.code.length+(exC e).length:=by rw [exprM_is];simp
theorem On.expr (e:PE) (h:fullE e=true) (s:CM):On s (exprM e s) (fun K _=>ExS K e s.code.length (exprM e s).code.length) where
 pc:=by rw [exprM_is];exact⟨exC e,rfl⟩
 pb:=by rw [exprM_is];exact⟨[],by simp⟩
 so:=fun K B hK _=>by
  rw [expr_len]
  refine exS_of e h _ (fun j hj=>?_)
  rw [hK (s.code.length+j) (by omega) (by rw [expr_len];omega),exprM_is]
  show (s.code++exC e)[_]?=_
  rw [List.getElem?_append_right (by omega),Nat.add_sub_cancel_left]
theorem aim_len (s:CM) (i:Nat):(s.aim i).code.length=s.code.length:=by simp [CM.aim]
theorem aim_ne (s:CM) (i j:Nat) (h:i≠j):(s.aim i).code[j]?=s.code[j]?:=by
 unfold CM.aim
 simp only [List.getElem?_set]
 rw [if_neg h]
theorem aim_at (s:CM) (i:Nat) (k x:Int) (h:s.code[i]?=some (k,x)):(s.aim i).code[i]?=some (k,(s.code.length:Int)):=by
 have hi:i<s.code.length:=(List.getElem?_eq_some_iff.1 h).1
 unfold CM.aim
 simp only [List.getElem?_set_self hi]
 rw [List.getD,h]
 rfl
theorem set_pre {α:Type} {l l':List α} (h:l <+: l') (i:Nat) (x:α) (hi:l.length≤i):l <+: l'.set i x:=by
 obtain⟨t,rfl⟩:=h
 refine⟨t.set (i - l.length) x,?_⟩
 rw [List.set_append_right _ _ hi]
theorem On.aim {s s':CM} {R:List (Int×Int)->List (Int×Int×Int)->Prop} (i:Nat) (k x:Int) (hi:s.code.length≤i) (hx:s'.code[i]?=some (k,x))
  (pc:s.code <+: s'.code) (pb:s.br <+: s'.br)
  (so:∀ K B,(∀ j,s.code.length≤j->j<s'.code.length->j≠i->K[j]?=s'.code[j]?)->(∀ j,s.br.length≤j->j<s'.br.length->B[j]?=s'.br[j]?)->K[i]?=some (k,(s'.code.length:Int))->R K B):On s (s'.aim i) R where
 pc:=set_pre pc _ _ hi
 pb:=pb
 so:=fun K B hK hB=>by
  refine so K B (fun j h1 h2 h3=>?_) hB ?_
  ·rw [hK j h1 (by rw [aim_len];exact h2),aim_ne _ _ _ (fun e=>h3 e.symm)]
  ·have hl:i<s'.code.length:=(List.getElem?_eq_some_iff.1 hx).1
   rw [hK i hi (by rw [aim_len];exact hl),aim_at _ _ _ _ hx]
theorem On.branch (n:PNode) (hn:n.expr=.nil∨fullE n.expr=true) (s:CM):On s (branchM n s) (fun K _=>BrS K n s.br.length s.code.length (branchM n s).code.length)∧(branchM n s).br=s.br++[(n.cd,n.nd,0)]:=by
 have h1:On s { s with br:=s.br++[(n.cd,n.nd,0)] } (fun _ _=>True):=⟨⟨[],by simp⟩,⟨_,rfl⟩,fun _ _ _ _=>trivial⟩
 have e1:(CM.code { s with br:=s.br++[(n.cd,n.nd,0)] })=s.code:=rfl
 by_cases hz:n.expr=.nil
 ·have e:branchM n s=CM.add { s with br:=s.br++[(n.cd,n.nd,0)] } 15 (s.br.length:Int):=by
   unfold branchM
   rw [hz]
  rw [e]
  refine⟨h1.trans (On.add _ 15 _) (fun K B _ h=>?_),rfl⟩
  rw [add_len]
  exact .free hz h
 ·have hf:fullE n.expr=true:=hn.resolve_left hz
  have e:branchM n s=(((exprM n.expr { s with br:=s.br++[(n.cd,n.nd,0)] }).add 18 0).add 15 (s.br.length:Int)).aim (exprM n.expr { s with br:=s.br++[(n.cd,n.nd,0)] }).code.length:=by
   unfold branchM
   cases he:n.expr with
   | nil=>exact absurd he hz
   | num v=>rfl
   | var a b=>rfl
   | pair a b c=>rfl
  have q1:=On.expr n.expr hf { s with br:=s.br++[(n.cd,n.nd,0)] }
  have q2:=On.add (exprM n.expr { s with br:=s.br++[(n.cd,n.nd,0)] }) 18 0
  have q3:=On.add ((exprM n.expr { s with br:=s.br++[(n.cd,n.nd,0)] }).add 18 0) 15 (s.br.length:Int)
  have hbr:(branchM n s).br=s.br++[(n.cd,n.nd,0)]:=by rw [e];show (exprM _ _).br=_;rw [exprM_is]
  have hl:=expr_len n.expr { s with br:=s.br++[(n.cd,n.nd,0)] }
  refine⟨?_,hbr⟩
  rw [e,aim_len,add_len,add_len]
  rw [e1] at hl q1
  have l2:=add_len (exprM n.expr { s with br:=s.br++[(n.cd,n.nd,0)] }) 18 0
  generalize exprM n.expr { s with br:=s.br++[(n.cd,n.nd,0)] }=E at *
  refine On.aim E.code.length 18 0 (by omega) ?_ (h1.pc.trans (q1.pc.trans (q2.pc.trans q3.pc))) (h1.pb.trans (q1.pb.trans (q2.pb.trans q3.pb))) ?_
  ·exact getp q3.pc (by simp [CM.add])
  ·intro K B hK hB h18
   rw [add_len,add_len] at hK h18
   refine .ask hz (q1.so K B (fun j a b=>?_) (fun j a b=>?_)) h18 ?_
   ·rw [e1] at a
    rw [hK j a (by omega) (by omega),getp_lt q3.pc (by omega),getp_lt q2.pc b]
   ·exact absurd b (by have:=q1.pb.length_le;have h0:=congrArg List.length hbr;rw [e] at h0;have h0:E.br.length=_:=h0;simp at a h0;omega)
   ·have:=hK (E.code.length+1) (by omega) (by omega) (by omega)
    rw [this]
    simp [CM.add]
end Go.Proofs.YtnhidaamfnjdjaaGreatDoor
namespace Go.Proofs.YtnhidaamfnjdjaaGreatDoor
open Go.RowKit Go.Maps
theorem land_ne (s:CM) (i j:Nat) (h:i≠j):(s.land i).br[j]?=s.br[j]?:=by
 unfold CM.land
 simp only [List.getElem?_set]
 rw [if_neg h]
theorem land_at (s:CM) (i:Nat) (a b c:Int) (h:s.br[i]?=some (a,b,c)):(s.land i).br[i]?=some (a,b,(s.code.length:Int)):=by
 have hi:i<s.br.length:=(List.getElem?_eq_some_iff.1 h).1
 unfold CM.land
 simp only [List.getElem?_set_self hi]
 rw [List.getD,h]
 rfl
theorem land_len (s:CM) (i:Nat):(s.land i).br.length=s.br.length:=by simp [CM.land]
theorem lineM_1 (n:PNode) (s:CM) (e:n.kind=1):lineM n s=s.add 0 0:=by unfold lineM;simp [e]
theorem lineM_2 (n:PNode) (s:CM) (e:n.kind=2):lineM n s=(s.add 0 0).add 20 0:=by unfold lineM;simp [e]
theorem lineM_3 (n:PNode) (s:CM) (e:n.kind=3):lineM n s=(exprM n.expr (s.add 0 0)).add 12 n.nd:=by unfold lineM;simp [e]
theorem lineM_4o (n:PNode) (s:CM) (e:n.kind=4) (hc:n.cd=2):lineM n s=(exprM n.expr (s.add 0 0)).add 13 0:=by unfold lineM;simp [e,hc]
theorem lineM_4 (n:PNode) (s:CM) (e:n.kind=4) (hc:n.cd≠2):lineM n s=(exprM n.expr (s.add 0 0)).add 14 n.cd:=by unfold lineM;simp [e,hc]
theorem lineM_5 (n:PNode) (s:CM) (e:n.kind=5):lineM n s=((branchM n (s.add 0 0)).add 16 0).land s.br.length:=by unfold lineM;simp [e];rfl
theorem lineM_6 (n:PNode) (s:CM) (e:n.kind=6):lineM n s=(exprM n.expr (s.add 0 0)).add 17 0:=by unfold lineM;simp [e]
section
variable {T : List PNode}
theorem On.line {i:Nat} (s:CM) (hk:1≤(T.getD i default).kind∧(T.getD i default).kind≤6) (hl:LineOk (T.getD i default)):On s (lineM (T.getD i default) s) (fun K B=>Seg T K B (.node i) s.code.length (lineM (T.getD i default) s).code.length):=by
 have h0:=On.add s 0 0
 have l0:=add_len s 0 0
 have cases:(T.getD i default).kind=1∨(T.getD i default).kind=2∨(T.getD i default).kind=3∨(T.getD i default).kind=4∨(T.getD i default).kind=5∨(T.getD i default).kind=6:=by omega
 rcases cases with e|e|e|e|e|e
 ·have q:lineM (T.getD i default) s=s.add 0 0:=lineM_1 _ s e
  rw [q,l0]
  exact h0.mono fun K B h=>.skip e h
 ·have q:lineM (T.getD i default) s=(s.add 0 0).add 20 0:=lineM_2 _ s e
  rw [q,add_len,l0]
  refine h0.trans (On.add _ 20 0) fun K B h k=>?_
  rw [l0] at k
  exact .stop e h k
 ·have q:lineM (T.getD i default) s=(exprM (T.getD i default).expr (s.add 0 0)).add 12 (T.getD i default).nd:=lineM_3 _ s e
  have h1:=On.expr (T.getD i default).expr (hl.1 (.inl e)) (s.add 0 0)
  rw [q,add_len]
  refine (h0.trans h1 (fun K B a b=>And.intro a b)).trans (On.add _ 12 _) fun K B h k=>?_
  rw [l0] at h
  exact .becomes e h.1 h.2 k
 ·have h1:=On.expr (T.getD i default).expr (hl.1 (.inr (.inl e))) (s.add 0 0)
  by_cases hc:(T.getD i default).cd=2
  ·have q:lineM (T.getD i default) s=(exprM (T.getD i default).expr (s.add 0 0)).add 13 0:=lineM_4o _ s e hc
   rw [q,add_len]
   refine (h0.trans h1 (fun K B a b=>And.intro a b)).trans (On.add _ 13 _) fun K B h k=>?_
   rw [l0] at h
   exact .out e hc h.1 h.2 k
  ·have q:lineM (T.getD i default) s=(exprM (T.getD i default).expr (s.add 0 0)).add 14 (T.getD i default).cd:=lineM_4 _ s e hc
   rw [q,add_len]
   refine (h0.trans h1 (fun K B a b=>And.intro a b)).trans (On.add _ 14 _) fun K B h k=>?_
   rw [l0] at h
   exact .write e hc h.1 h.2 k
 ·have q:lineM (T.getD i default) s=((branchM (T.getD i default) (s.add 0 0)).add 16 0).land s.br.length:=lineM_5 _ s e
  obtain⟨h1,h2⟩:=On.branch (T.getD i default) (hl.2 e) (s.add 0 0)
  have h3:=h0.trans h1 (fun K B a b=>And.intro a b)
  have h4:=h3.trans (On.add _ 16 0) (fun K B a b=>And.intro a b)
  have hlen:(((branchM (T.getD i default) (s.add 0 0)).add 16 0).land s.br.length).code.length=(branchM (T.getD i default) (s.add 0 0)).code.length+1:=add_len _ _ _
  have hbr:((branchM (T.getD i default) (s.add 0 0)).add 16 0).br=s.br++[((T.getD i default).cd,(T.getD i default).nd,0)]:=h2
  rw [q,hlen]
  refine⟨h4.pc,?_,fun K B hK hB=>?_⟩
  ·show s.br <+: List.set _ _ _
   rw [hbr]
   exact set_pre ⟨_,rfl⟩ _ _ (Nat.le_refl _)
  ·have k1:=(h3.trans (On.add _ 16 0) (fun K B (a:K[s.code.length]?=some (0,0)∧BrS K (T.getD i default) (s.add 0 0).br.length (s.add 0 0).code.length (branchM (T.getD i default) (s.add 0 0)).code.length) b=>And.intro a b)).so K
    (((branchM (T.getD i default) (s.add 0 0)).add 16 0).br) (fun j a b=>hK j a b) (fun j a b=>rfl)
   obtain⟨⟨k0,k2⟩,k3⟩:=k1
   rw [l0] at k2
   refine .read (j:=s.br.length) e k0 k2 k3 ?_
   have hb0:((branchM (T.getD i default) (s.add 0 0)).add 16 0).br[s.br.length]?=some ((T.getD i default).cd,(T.getD i default).nd,0):=by rw [hbr];simp
   rw [hB s.br.length (Nat.le_refl _) (by rw [land_len,hbr];simp),land_at _ _ _ _ _ hb0,add_len]
 ·have q:lineM (T.getD i default) s=(exprM (T.getD i default).expr (s.add 0 0)).add 17 0:=lineM_6 _ s e
  have h1:=On.expr (T.getD i default).expr (hl.1 (.inr (.inr e))) (s.add 0 0)
  rw [q,add_len]
  refine (h0.trans h1 (fun K B a b=>And.intro a b)).trans (On.add _ 17 _) fun K B h k=>?_
  rw [l0] at h
  exact .wait e h.1 h.2 k
def OnP (T:List PNode) (p:Nat->CM->CM) (ok:Nat->Prop):Prop:=∀ i s,ok i->On s (p i s) (fun K B=>Seg T K B (.node i) s.code.length (p i s).code.length)
theorem On.rfl' (s:CM):On s s (fun _ _=>True):=⟨⟨[],by simp⟩,⟨[],by simp⟩,fun _ _ _ _=>trivial⟩
theorem On.nodes {p:Nat->CM->CM} {ok:Nat->Prop} (hp:OnP T p ok):∀ (l:List Nat) (s:CM),(∀ k∈l,ok k)->On s (l.foldl (fun s k=>p k s) s) (fun K B=>Seg T K B (.nodes l) s.code.length (l.foldl (fun s k=>p k s) s).code.length)
 | [],s,_=>(On.rfl' s).mono fun _ _ _=>.nil
 | k :: l,s,h=>by
  have h1:=hp k s (h k (by simp))
  have h2:=On.nodes hp l (p k s) (fun x hx=>h x (by simp [hx]))
  exact h1.trans h2 fun K B a b=>.cons a b
theorem On.loop {p:Nat->CM->CM} {ok:Nat->Prop} (hp:OnP T p ok) {i:Nat} (hk:(T.getD i default).kind=10) (hf:fullE (T.getD i default).expr=true) (ho:∀ k∈(T.getD i default).kids,ok k) (s:CM) (s':CM)
  (hs:s'=(((T.getD i default).kids.foldl (fun s k=>p k s) ((exprM (T.getD i default).expr (s.add 0 0)).add 18 0)).add 19 (s.code.length:Int)).aim (exprM (T.getD i default).expr (s.add 0 0)).code.length) :
  On s s' (fun K B=>Seg T K B (.node i) s.code.length s'.code.length):=by
 have h0:=On.add s 0 0
 have h1:=On.expr (T.getD i default).expr hf (s.add 0 0)
 have h2:=On.add (exprM (T.getD i default).expr (s.add 0 0)) 18 0
 have h3:=On.nodes hp (T.getD i default).kids ((exprM (T.getD i default).expr (s.add 0 0)).add 18 0) ho
 have h4:=On.add ((T.getD i default).kids.foldl (fun s k=>p k s) ((exprM (T.getD i default).expr (s.add 0 0)).add 18 0)) 19 (s.code.length:Int)
 have l0:=add_len s 0 0
 have l2:=add_len (exprM (T.getD i default).expr (s.add 0 0)) 18 0
 have l4:=add_len ((T.getD i default).kids.foldl (fun s k=>p k s) ((exprM (T.getD i default).expr (s.add 0 0)).add 18 0)) 19 (s.code.length:Int)
 have m1:=h1.pc.length_le
 have m3:=h3.pc.length_le
 have hsl:s'.code.length=((T.getD i default).kids.foldl (fun s k=>p k s) ((exprM (T.getD i default).expr (s.add 0 0)).add 18 0)).code.length+1:=by rw [hs,aim_len,l4]
 rw [hsl,hs]
 clear hs hsl
 have h18:((exprM (T.getD i default).expr (s.add 0 0)).add 18 0).code[(exprM (T.getD i default).expr (s.add 0 0)).code.length]?=some (18,0):=by simp [CM.add]
 rw [l2] at h3 m3
 rw [l0] at h1 m1
 generalize exprM (T.getD i default).expr (s.add 0 0)=E at *
 generalize List.foldl (fun s k=>p k s) (E.add 18 0) (T.getD i default).kids=Bd at *
 refine On.aim E.code.length 18 0 (by omega) (getp (h3.pc.trans h4.pc) h18) (h0.pc.trans (h1.pc.trans (h2.pc.trans (h3.pc.trans h4.pc)))) (h0.pb.trans (h1.pb.trans (h2.pb.trans (h3.pb.trans h4.pb)))) ?_
 intro K B hK hB h18'
 rw [l4] at hK h18'
 have k0:=h0.so K (s.add 0 0).br (fun j a b=>by rw [hK j a (by omega) (by omega),getp_lt h4.pc (by omega),getp_lt h3.pc (by omega),getp_lt h2.pc (by omega),getp_lt h1.pc b]) (fun _ _ _=>rfl)
 have k1:=h1.so K E.br (fun j a b=>by rw [hK j (by omega) (by omega) (by omega),getp_lt h4.pc (by omega),getp_lt h3.pc (by omega),getp_lt h2.pc b]) (fun _ _ _=>rfl)
 have k3:=h3.so K B (fun j a b=>by rw [hK j (by omega) (by omega) (by omega),getp_lt h4.pc b]) (fun j a b=>by
  rw [hB j (by have:=(h0.pb.trans (h1.pb.trans h2.pb)).length_le;omega) (by have:=h4.pb.length_le;omega),getp_lt h4.pb b])
 have k4:=h4.so K (Bd.add 19 (s.code.length:Int)).br (fun j a b=>hK j (by omega) (by omega) (by omega)) (fun _ _ _=>rfl)
 exact .loop hk k0 k1 h18' k3 k4
end
end Go.Proofs.YtnhidaamfnjdjaaGreatDoor
namespace Go.Proofs.YtnhidaamfnjdjaaGreatDoor
open Go.RowKit Go.Maps
theorem prefix_of_get {α:Type} {l l':List α} (h:∀ j,j<l.length->l'[j]?=l[j]?):l <+: l':=by
 refine⟨l'.drop l.length,?_⟩
 apply List.ext_getElem?
 intro j
 by_cases hj:j<l.length
 ·rw [List.getElem?_append_left hj,h j hj]
 ·rw [List.getElem?_append_right (by omega),List.getElem?_drop]
  congr 1
  omega
structure OnH (s s':CM) (P:List Nat) (Q:List (Int×Int)->List (Int×Int×Int)->Nat->Prop):Prop where
 pc:s.code <+: s'.code
 pb:s.br <+: s'.br
 holes:∀ j∈P,s.code.length≤j∧j<s'.code.length∧s'.code[j]?=some (19,0)
 so:∀ K B (b:Nat),(∀ j,s.code.length≤j->j<s'.code.length->j∉P->K[j]?=s'.code[j]?)->(∀ j∈P,K[j]?=some (19,(b:Int)))->(∀ j,s.br.length≤j->j<s'.br.length->B[j]?=s'.br[j]?)->Q K B b
theorem OnH.trans {s s1 s2:CM} {P1 P2:List Nat} {Q1 Q2 R:List (Int×Int)->List (Int×Int×Int)->Nat->Prop} (h:OnH s s1 P1 Q1) (k:OnH s1 s2 P2 Q2) (hR:∀ K B b,Q1 K B b->Q2 K B b->R K B b):OnH s s2 (P1++P2) R where
 pc:=h.pc.trans k.pc
 pb:=h.pb.trans k.pb
 holes:=fun j hj=>by
  have l1:=h.pc.length_le
  have l2:=k.pc.length_le
  rcases List.mem_append.1 hj with hj|hj
  ·have:=h.holes j hj
   exact⟨this.1,by omega,by rw [getp_lt k.pc this.2.1];exact this.2.2⟩
  ·have:=k.holes j hj
   exact⟨by omega,this.2.1,this.2.2⟩
 so:=fun K B b hK hP hB=>by
  have l1:=h.pc.length_le
  have l2:=k.pc.length_le
  refine hR K B b (h.so K B b (fun j a c d=>?_) (fun j hj=>hP j (List.mem_append.2 (.inl hj))) (fun j a c=>?_)) (k.so K B b (fun j a c d=>?_) (fun j hj=>hP j (List.mem_append.2 (.inr hj))) (fun j a c=>?_))
  ·rw [hK j a (by omega) (fun hj=>by
    rcases List.mem_append.1 hj with hj|hj
    ·exact d hj
    ·have:=(k.holes j hj).1;omega),getp_lt k.pc c]
  ·rw [hB j a (by have:=k.pb.length_le;omega),getp_lt k.pb c]
  ·exact hK j (by omega) c (fun hj=>by
    rcases List.mem_append.1 hj with hj|hj
    ·have:=(h.holes j hj).2.1;omega
    ·exact d hj)
  ·exact hB j (by have:=h.pb.length_le;omega) c
theorem OnH.mono {s s':CM} {P:List Nat} {Q R:List (Int×Int)->List (Int×Int×Int)->Nat->Prop} (h:OnH s s' P Q) (hr:∀ K B b,Q K B b->R K B b):OnH s s' P R:=⟨h.pc,h.pb,h.holes,fun K B b x y z=>hr K B b (h.so K B b x y z)⟩
theorem OnH.refl (s:CM):OnH s s [] (fun _ _ _=>True):=⟨⟨[],by simp⟩,⟨[],by simp⟩,by simp,fun _ _ _ _ _ _=>trivial⟩
theorem aims_spec:∀ (l:List Nat) (s:CM),(s.aims l).code.length=s.code.length∧(s.aims l).br=s.br∧(∀ j,j∉l->(s.aims l).code[j]?=s.code[j]?)∧∀ j∈l,∀ k x,s.code[j]?=some (k,x)->(s.aims l).code[j]?=some (k,(s.code.length:Int))
 | [],s=>⟨rfl,rfl,fun _ _=>rfl,by simp⟩
 | i :: l,s=>by
  have ih:=aims_spec l (s.aim i)
  have e:s.aims (i :: l)=(s.aim i).aims l:=rfl
  rw [e]
  refine⟨ih.1.trans (aim_len s i),ih.2.1,fun j hj=>?_,fun j hj k x hx=>?_⟩
  ·rw [ih.2.2.1 j (fun h=>hj (List.mem_cons_of_mem _ h)),aim_ne _ _ _ (fun h=>hj (by rw [h];simp))]
  ·by_cases hl:j∈l
   ·by_cases hij:i=j
    ·subst hij
     rw [ih.2.2.2 i hl k _ (aim_at s i k x hx),aim_len]
    ·rw [ih.2.2.2 j hl k x (by rw [aim_ne _ _ _ hij];exact hx),aim_len]
   ·have hij:j=i:=by
     rcases List.mem_cons.1 hj with h|h
     ·exact h
     ·exact absurd h hl
    subst hij
    rw [ih.2.2.1 j hl]
    exact aim_at s j k x hx
section
variable {T : List PNode} {p : Nat → CM → CM} {ok : Nat → Prop}
def belowP (T:List PNode) (p:Nat->CM->CM) (i:Nat) (s:CM):CM:=(T.getD i default).kids.foldl (fun s k=>p k s) s
theorem OnH.when1 (hp:OnP T p ok) (k:Nat) (hf:fullE (T.getD k default).expr=true) (ho:∀ x∈(T.getD k default).kids,ok x) (s:CM) (lv:List Nat) :
  ∃ j,(whenM T (belowP T p) (s,lv) k).2=lv++[j]∧OnH s (whenM T (belowP T p) (s,lv) k).1 [j] (fun K B b=>∃ c d,ExS K (T.getD k default).expr s.code.length c∧K[c]?=some (18,((d+1:Nat):Int))∧Seg T K B (.nodes (T.getD k default).kids) (c+1) d∧K[d]?=some (19,(b:Int))∧d+1=(whenM T (belowP T p) (s,lv) k).1.code.length):=by
 have h1:=On.expr (T.getD k default).expr hf s
 have h2:=On.add (exprM (T.getD k default).expr s) 18 0
 have h3:=On.nodes hp (T.getD k default).kids ((exprM (T.getD k default).expr s).add 18 0) ho
 have h4:=On.add ((T.getD k default).kids.foldl (fun s k=>p k s) ((exprM (T.getD k default).expr s).add 18 0)) 19 0
 have l2:=add_len (exprM (T.getD k default).expr s) 18 0
 have l4:=add_len ((T.getD k default).kids.foldl (fun s k=>p k s) ((exprM (T.getD k default).expr s).add 18 0)) 19 0
 have m1:=h1.pc.length_le
 have m3:=h3.pc.length_le
 have e1:(whenM T (belowP T p) (s,lv) k).1=(((T.getD k default).kids.foldl (fun s k=>p k s) ((exprM (T.getD k default).expr s).add 18 0)).add 19 0).aim (exprM (T.getD k default).expr s).code.length:=rfl
 have e2:(whenM T (belowP T p) (s,lv) k).2=lv++[((T.getD k default).kids.foldl (fun s k=>p k s) ((exprM (T.getD k default).expr s).add 18 0)).code.length]:=rfl
 have h18:((exprM (T.getD k default).expr s).add 18 0).code[(exprM (T.getD k default).expr s).code.length]?=some (18,0):=by simp [CM.add]
 rw [e1,e2,aim_len,l4]
 refine⟨_,rfl,?_⟩
 rw [l2] at h3 m3
 generalize exprM (T.getD k default).expr s=E at *
 generalize List.foldl (fun s k=>p k s) (E.add 18 0) (T.getD k default).kids=Bd at *
 have hb19:(Bd.add 19 0).code[Bd.code.length]?=some (19,0):=by simp [CM.add]
 refine⟨set_pre (h1.pc.trans (h2.pc.trans (h3.pc.trans h4.pc))) _ _ (by omega),h1.pb.trans (h2.pb.trans (h3.pb.trans h4.pb)),?_,?_⟩
 ·intro j hj
  have hj:j=Bd.code.length:=by simpa using hj
  subst hj
  refine⟨by omega,by rw [aim_len,l4];omega,?_⟩
  rw [aim_ne _ _ _ (by omega)];exact hb19
 ·intro K B b hK hP hB
  rw [aim_len,l4] at hK
  have hPj:=hP Bd.code.length (by simp)
  have ne:∀ j,j≠Bd.code.length->j∉[Bd.code.length]:=fun j h=>by simpa using h
  have k1:=h1.so K E.br (fun j a c=>by rw [hK j (by omega) (by omega) (ne j (by omega)),aim_ne _ _ _ (by omega),getp_lt h4.pc (by omega),getp_lt h3.pc (by omega),getp_lt h2.pc c]) (fun _ _ _=>rfl)
  have k18:=hK E.code.length (by omega) (by omega) (ne _ (by omega))
  rw [aim_at _ _ 18 0 (getp (h3.pc.trans h4.pc) h18),l4] at k18
  have k3:=h3.so K B (fun j a c=>by rw [hK j (by omega) (by omega) (ne j (by omega)),aim_ne _ _ _ (by omega),getp_lt h4.pc c]) (fun j a c=>by
   have x1:=(h1.pb.trans h2.pb).length_le
   have x2:=h4.pb.length_le
   rw [hB j (by omega) (by show j<(Bd.add 19 0).br.length;omega)]
   exact getp_lt h4.pb c)
  exact⟨_,_,k1,k18,k3,hPj,rfl⟩
theorem OnH.whens (hp:OnP T p ok):∀ (l:List Nat) (s:CM) (lv:List Nat),(∀ k∈l,fullE (T.getD k default).expr=true∧∀ x∈(T.getD k default).kids,ok x) ->
  ∃ P,(l.foldl (whenM T (belowP T p)) (s,lv)).2=lv++P∧OnH s (l.foldl (whenM T (belowP T p)) (s,lv)).1 P (fun K B b=>Seg T K B (.whens l b) s.code.length (l.foldl (whenM T (belowP T p)) (s,lv)).1.code.length)
 | [],s,lv,_=>⟨[],by simp,(OnH.refl s).mono fun _ _ _ _=>.wnil⟩
 | k :: l,s,lv,h=>by
  obtain⟨j,e1,h1⟩:=OnH.when1 hp k (h k (by simp)).1 (h k (by simp)).2 s lv
  rw [List.foldl_cons]
  generalize whenM T (belowP T p) (s,lv) k=w at *
  obtain⟨s1,lv1⟩:=w
  dsimp only at e1 h1
  subst e1
  obtain⟨P,e2,h2⟩:=OnH.whens hp l s1 (lv++[j]) (fun x hx=>h x (by simp [hx]))
  refine⟨[j]++P,by rw [e2,List.append_assoc],h1.trans h2 ?_⟩
  rintro K B b ⟨c,d,a1,a2,a3,a4,a5⟩ a6
  rw [<-a5] at a6
  exact .wcons a1 a2 a3 a4 a6
theorem On.choice (hp:OnP T p ok) {i:Nat} (hk:(T.getD i default).kind=11) (ho:∀ k∈(T.getD i default).kids,fullE (T.getD k default).expr=true∧∀ x∈(T.getD k default).kids,ok x) (s s':CM)
  (hs:s'=(((T.getD i default).kids.foldl (whenM T (belowP T p)) (s.add 0 0,[])).1.add 20 0).aims ((T.getD i default).kids.foldl (whenM T (belowP T p)) (s.add 0 0,[])).2) :
  On s s' (fun K B=>Seg T K B (.node i) s.code.length s'.code.length):=by
 have h0:=On.add s 0 0
 have l0:=add_len s 0 0
 obtain⟨P,e1,h1⟩:=OnH.whens hp (T.getD i default).kids (s.add 0 0) [] ho
 rw [l0] at h1
 generalize (T.getD i default).kids.foldl (whenM T (belowP T p)) (s.add 0 0,[])=q at *
 obtain⟨s1,lv1⟩:=q
 dsimp only at e1 h1 hs
 rw [List.nil_append] at e1
 subst e1
 have h2:=On.add s1 20 0
 have l2:=add_len s1 20 0
 obtain⟨a1,a2,a3,a4⟩:=aims_spec lv1 (s1.add 20 0)
 rw [<-hs,l2] at a1
 rw [<-hs] at a2 a3 a4
 have m1:=h1.pc.length_le
 have hk4:∀ j∈lv1,s'.code[j]?=some (19,((s1.code.length+1:Nat):Int)):=fun j hj=>by
  have:=h1.holes j hj
  have x:=a4 j hj 19 0 (getp h2.pc this.2.2)
  rw [l2] at x
  exact x
 have hlt:∀ j∈lv1,s.code.length<j∧j<s1.code.length:=fun j hj=>by
  have:=h1.holes j hj
  omega
 refine⟨prefix_of_get fun j hj=>?_,?_,fun K B hK hB=>?_⟩
 ·rw [a3 j (fun h=>by have:=hlt j h;omega),getp_lt h2.pc (by omega),getp_lt h1.pc (by omega),getp_lt h0.pc hj]
 ·rw [a2]
  exact h0.pb.trans (h1.pb.trans h2.pb)
 ·have k0:=h0.so K (s.add 0 0).br (fun j x y=>by rw [hK j x (by omega),a3 j (fun h=>by have:=hlt j h;omega),getp_lt h2.pc (by omega),getp_lt h1.pc y]) (fun _ _ _=>rfl)
  have k1:=h1.so K B (s1.code.length+1) (fun j x y z=>by rw [hK j (by omega) (by omega),a3 j z,getp_lt h2.pc y]) (fun j hj=>by
   have:=hlt j hj
   rw [hK j (by omega) (by omega)];exact hk4 j hj) (fun j x y=>by
   rw [hB j (by have:=h0.pb.length_le;omega) (by rw [a2];have:=h2.pb.length_le;omega),a2,getp_lt h2.pb y])
  have k2:=h2.so K (s1.add 20 0).br (fun j x y=>by rw [hK j (by omega) (by omega),a3 j (fun h=>by have:=hlt j h;omega)]) (fun _ _ _=>rfl)
  rw [a1]
  exact .choice hk k0 k1 k2
end
end Go.Proofs.YtnhidaamfnjdjaaGreatDoor
namespace Go.Proofs.YtnhidaamfnjdjaaGreatDoor
open Go.RowKit Go.Maps
section
variable {T : List PNode} {p : Nat → CM → CM} {ok : Nat → Prop}
theorem On.opens:∀ (l:List Nat) (s:CM) (lv:List Nat),(∀ k∈l,(T.getD k default).expr=.nil∨fullE (T.getD k default).expr=true) ->
  (l.foldl (onM T) (s,lv)).2=lv++(List.range l.length).map (s.br.length+·)∧(l.foldl (onM T) (s,lv)).1.br=s.br++l.map (fun k=>((T.getD k default).cd,(T.getD k default).nd,(0:Int))) ∧
  On s (l.foldl (onM T) (s,lv)).1 (fun K _=>∀ B,Seg T K B (.opens (l.zip ((List.range l.length).map (s.br.length+·)))) s.code.length (l.foldl (onM T) (s,lv)).1.code.length)
 | [],s,lv,_=>⟨by simp,by simp,(On.rfl' s).mono fun _ _ _ _=>.onil⟩
 | k :: l,s,lv,h=>by
  obtain⟨h1,b1⟩:=On.branch (T.getD k default) (h k (by simp)) s
  have e:(k :: l).foldl (onM T) (s,lv)=l.foldl (onM T) (branchM (T.getD k default) s,lv++[s.br.length]):=rfl
  obtain⟨e2,b2,h2⟩:=On.opens l (branchM (T.getD k default) s) (lv++[s.br.length]) (fun x hx=>h x (by simp [hx]))
  have hl:(branchM (T.getD k default) s).br.length=s.br.length+1:=by rw [b1];simp
  have er:(List.range (k :: l).length).map (s.br.length+·)=s.br.length :: (List.range l.length).map ((branchM (T.getD k default) s).br.length+·):=by
   rw [List.length_cons,List.range_succ_eq_map,List.map_cons,List.map_map,hl]
   simp only [Nat.add_zero]
   congr 1
   apply List.map_congr_left
   intro x _
   show s.br.length+(x+1)=s.br.length+1+x
   omega
  rw [e,er]
  refine⟨by rw [e2,List.append_assoc];rfl,by rw [b2,b1,List.append_assoc];rfl,h1.trans h2 fun K B a b B'=>?_⟩
  rw [List.zip_cons_cons]
  exact .ocons a (b B')
structure OnL (T:List PNode) (kbs:List (Nat×Nat)) (s s':CM) (P:List Nat):Prop where
 pc:s.code <+: s'.code
 bl:s.br.length≤s'.br.length
 bn:∀ j,j<s.br.length->j∉kbs.map Prod.snd->s'.br[j]?=s.br[j]?
 holes:∀ j∈P,s.code.length≤j∧j<s'.code.length∧s'.code[j]?=some (19,0)
 so:∀ K B (b:Nat),(∀ j,s.code.length≤j->j<s'.code.length->j∉P->K[j]?=s'.code[j]?)->(∀ j∈P,K[j]?=some (19,(b:Int)))->(∀ j,j∈kbs.map Prod.snd∨s.br.length≤j->j<s'.br.length->B[j]?=s'.br[j]?)->Seg T K B (.lands kbs b) s.code.length s'.code.length
theorem OnL.all (hp:OnP T p ok):∀ (kbs:List (Nat×Nat)) (s:CM) (lv:List Nat),(∀ kb∈kbs,∀ x∈(T.getD kb.1 default).kids,ok x)->(kbs.map Prod.snd).Nodup->(∀ kb∈kbs,s.br[kb.2]?=some ((T.getD kb.1 default).cd,(T.getD kb.1 default).nd,0)) ->
  ∃ P,(kbs.foldl (landsM (belowP T p)) (s,lv)).2=lv++P∧OnL T kbs s (kbs.foldl (landsM (belowP T p)) (s,lv)).1 P
 | [],s,lv,_,_,_=>⟨[],by simp,⟨⟨[],by simp⟩,Nat.le_refl _,fun _ _ _=>rfl,by simp,fun _ _ _ _ _ _=>.lnil⟩⟩
 | (k,b) :: l,s,lv,ho,hn,hb=>by
  have hnd:b∉l.map Prod.snd∧(l.map Prod.snd).Nodup:=by simpa using hn
  have hb0:=hb (k,b) (by simp)
  dsimp only at hb0
  have hbl:b<s.br.length:=(List.getElem?_eq_some_iff.1 hb0).1
  have h1:=On.nodes hp (T.getD k default).kids (s.land b) (ho (k,b) (by simp))
  have e:((k,b) :: l).foldl (landsM (belowP T p)) (s,lv)=l.foldl (landsM (belowP T p)) (((T.getD k default).kids.foldl (fun s k=>p k s) (s.land b)).add 19 0,lv++[((T.getD k default).kids.foldl (fun s k=>p k s) (s.land b)).code.length]):=rfl
  have lc:(s.land b).code=s.code:=rfl
  rw [e]
  rw [lc] at h1
  have pc1:s.code <+: ((T.getD k default).kids.foldl (fun s k=>p k s) (s.land b)).code:=h1.pc
  have pb1:=h1.pb
  have so1:=h1.so
  rw [lc] at so1
  have hlb:=land_len s b
  have hat:=land_at s b _ _ _ hb0
  generalize (T.getD k default).kids.foldl (fun s k=>p k s) (s.land b)=Bd at *
  have h2:=On.add Bd 19 0
  have l2:=add_len Bd 19 0
  have m1:=pc1.length_le
  have mb:=pb1.length_le
  have hB1:∀ j,j<s.br.length->j≠b->Bd.br[j]?=s.br[j]?:=fun j hj hne=>by rw [getp_lt pb1 (by omega),land_ne _ _ _ (fun x=>hne x.symm)]
  obtain⟨P,e2,q⟩:=OnL.all hp l (Bd.add 19 0) (lv++[Bd.code.length]) (fun kb hkb=>ho kb (by simp [hkb])) hnd.2 (fun kb hkb=>by
   have h3:=hb kb (by simp [hkb])
   show Bd.br[kb.2]?=_
   rw [hB1 kb.2 (List.getElem?_eq_some_iff.1 h3).1 (fun x=>hnd.1 (List.mem_map.2 ⟨kb,hkb,x⟩))]
   exact h3)
  rw [e2]
  generalize (l.foldl (landsM (belowP T p)) (Bd.add 19 0,lv++[Bd.code.length])).1=F at *
  have mq:=q.pc.length_le
  have hbq:F.br[b]?=some ((T.getD k default).cd,(T.getD k default).nd,(s.code.length:Int)):=by
   rw [q.bn b (by show b<Bd.br.length;omega) hnd.1]
   show Bd.br[b]?=_
   rw [getp_lt pb1 (by omega)]
   exact hat
  refine⟨Bd.code.length :: P,by rw [List.append_assoc];rfl,pc1.trans (h2.pc.trans q.pc),Nat.le_trans (by show s.br.length≤Bd.br.length;omega) q.bl,?_,?_,?_⟩
  ·intro j hj hm
   have hm:j≠b∧j∉l.map Prod.snd:=by simpa using hm
   rw [q.bn j (by show j<Bd.br.length;omega) hm.2]
   exact hB1 j hj hm.1
  ·intro j hj
   rcases List.mem_cons.1 hj with rfl|hj
   ·exact⟨by omega,by omega,getp q.pc (by simp [CM.add])⟩
   ·have:=q.holes j hj
    exact⟨by omega,this.2.1,this.2.2⟩
  ·intro K B b' hK hP hB
   have hPl:∀ j∈P,Bd.code.length<j:=fun j hj=>by have:=(q.holes j hj).1;omega
   refine .lcons (d:=Bd.code.length) ?_ (so1 K B (fun j x y=>?_) (fun j x y=>?_)) (hP _ (by simp)) ?_
   ·rw [hB b (.inl (by simp)) (List.getElem?_eq_some_iff.1 hbq).1];exact hbq
   ·rw [hK j x (by omega) (fun h=>by
     rcases List.mem_cons.1 h with h|h
     ·omega
     ·have:=hPl j h;omega),getp_lt q.pc (by omega),getp_lt h2.pc y]
   ·have hjl:j∉l.map Prod.snd:=fun h=>by
     obtain⟨kb,hkb,rfl⟩:=List.mem_map.1 h
     have:=(List.getElem?_eq_some_iff.1 (hb kb (by simp [hkb]))).1
     omega
    have hjF:F.br[j]?=Bd.br[j]?:=q.bn j y hjl
    rw [hB j (.inr (by omega)) (by have:=q.bl;have e3:(Bd.add 19 0).br=Bd.br:=rfl;rw [e3] at this;omega),hjF]
   ·have:=q.so K B b' (fun j x y z=>hK j (by omega) y (fun h=>by
     rcases List.mem_cons.1 h with h|h
     ·omega
     ·exact z h)) (fun j hj=>hP j (by simp [hj])) (fun j x y=>by
     refine hB j ?_ y
     rcases x with x|x
     ·exact .inl (by simp at x ⊢;exact .inr x)
     ·right
      have x:Bd.br.length≤j:=x
      omega)
    rw [l2] at this
    exact this
theorem On.alt (hp:OnP T p ok) {i:Nat} (hk:(T.getD i default).kind=13) (ho:∀ k∈(T.getD i default).kids,((T.getD k default).expr=.nil∨fullE (T.getD k default).expr=true)∧∀ x∈(T.getD k default).kids,ok x) (s s':CM) (q:CM×List Nat) (hq:q=(T.getD i default).kids.foldl (onM T) (s.add 0 0,[])) (r:CM×List Nat)
  (hr:r=((T.getD i default).kids.zip q.2).foldl (landsM (belowP T p)) (q.1.add 16 0,[])) (hs:s'=r.1.aims r.2) :
  On s s' (fun K B=>Seg T K B (.node i) s.code.length s'.code.length):=by
 have h0:=On.add s 0 0
 have l0:=add_len s 0 0
 obtain⟨e1,b1,h1⟩:=On.opens (T.getD i default).kids (s.add 0 0) [] (fun k hk=>(ho k hk).1)
 rw [<-hq] at e1 b1 h1
 rw [List.nil_append] at e1
 rw [<-e1,l0] at h1
 have eb:(s.add 0 0).br=s.br:=rfl
 rw [eb] at e1 b1
 obtain⟨s1,lv1⟩:=q
 dsimp only at e1 b1 h1 hr
 have h2:=On.add s1 16 0
 have l2:=add_len s1 16 0
 have hll:lv1.length=(T.getD i default).kids.length:=by rw [e1];simp
 have hmem:∀ j∈lv1,s.br.length≤j∧j<s1.br.length:=by
  intro j hj
  rw [e1] at hj
  obtain⟨x,hx,rfl⟩:=List.mem_map.1 hj
  have:=List.mem_range.1 hx
  rw [b1,List.length_append,List.length_map]
  omega
 have hsnd:((T.getD i default).kids.zip lv1).map Prod.snd=lv1:=by rw [List.map_snd_zip (by omega)]
 obtain⟨P,e3,h3⟩:=OnL.all hp ((T.getD i default).kids.zip lv1) (s1.add 16 0) [] (fun kb hkb=>(ho kb.1 (List.of_mem_zip hkb).1).2) (by
  rw [hsnd,e1]
  exact List.Pairwise.map _ (fun a b h=>by intro x;exact h (by omega)) List.nodup_range) (by
  intro kb hkb
  show s1.br[kb.2]?=_
  obtain⟨n,hn,he⟩:=List.getElem_of_mem hkb
  rw [List.getElem_zip] at he
  subst he
  have hn1:n<(T.getD i default).kids.length:=by rw [List.length_zip] at hn;omega
  have hv:lv1[n]'(by omega)=s.br.length+n:=by simp only [e1,List.getElem_map,List.getElem_range]
  simp only [hv,b1]
  rw [List.getElem?_append_right (by omega),Nat.add_sub_cancel_left,List.getElem?_map,List.getElem?_eq_getElem hn1]
  rfl)
 rw [<-hr,List.nil_append] at e3
 rw [<-hr] at h3
 obtain⟨s3,lv3⟩:=r
 dsimp only at e3 h3 hs
 subst e3
 obtain⟨a1,a2,a3,a4⟩:=aims_spec lv3 s3
 rw [<-hs] at a1 a2 a3 a4
 have m1:=h1.pc.length_le
 have m3:=h3.pc.length_le
 have hk4:∀ j∈lv3,s'.code[j]?=some (19,(s3.code.length:Int)):=fun j hj=>a4 j hj 19 0 (h3.holes j hj).2.2
 have hlt:∀ j∈lv3,s1.code.length<j∧j<s3.code.length:=fun j hj=>by
  have:=h3.holes j hj
  omega
 have hbl:=h3.bl
 have hb0:s1.br.length=s.br.length+(T.getD i default).kids.length:=by rw [b1,List.length_append,List.length_map]
 have hb1:(s1.add 16 0).br=s1.br:=rfl
 rw [hb1] at hbl
 refine⟨prefix_of_get fun j hj=>?_,prefix_of_get fun j hj=>?_,fun K B hK hB=>?_⟩
 ·rw [a3 j (fun h=>by have:=hlt j h;omega),getp_lt h3.pc (by omega),getp_lt h2.pc (by omega),getp_lt h1.pc (by omega),getp_lt h0.pc hj]
 ·rw [a2,h3.bn j (by rw [hb1];omega) (by rw [hsnd];intro h;have:=(hmem j h).1;omega),hb1,b1,List.getElem?_append_left hj]
 ·have k0:=h0.so K (s.add 0 0).br (fun j x y=>by rw [hK j x (by omega),a3 j (fun h=>by have:=hlt j h;omega),getp_lt h3.pc (by omega),getp_lt h2.pc (by omega),getp_lt h1.pc y]) (fun _ _ _=>rfl)
  have k1:=h1.so K s1.br (fun j x y=>by rw [hK j (by omega) (by omega),a3 j (fun h=>by have:=hlt j h;omega),getp_lt h3.pc (by omega),getp_lt h2.pc y]) (fun _ _ _=>rfl)
  have k2:=h2.so K (s1.add 16 0).br (fun j x y=>by rw [hK j (by omega) (by omega),a3 j (fun h=>by have:=hlt j h;omega),getp_lt h3.pc y]) (fun _ _ _=>rfl)
  have k3:=h3.so K B s3.code.length (fun j x y z=>by rw [hK j (by omega) (by omega),a3 j z]) (fun j hj=>by
   have:=hlt j hj
   rw [hK j (by omega) (by omega)];exact hk4 j hj) (fun j x y=>by
   rw [hB j ?_ (by rw [a2];exact y),a2]
   rcases x with x|x
   ·rw [hsnd] at x;exact (hmem j x).1
   ·rw [hb1] at x;omega)
  rw [l2] at k3
  rw [a1]
  exact .alt hk k0 hll (k1 B) k2 k3
end
end Go.Proofs.YtnhidaamfnjdjaaGreatDoor
namespace Go.Proofs.YtnhidaamfnjdjaaGreatDoor
open Go.RowKit Go.Maps
section
variable {T : List PNode} {p : Nat → CM → CM} {ok : Nat → Prop}
structure OnB (T:List PNode) (kbs:List (Nat×Nat)) (s s':CM) (S:List Nat):Prop where
 len:s.code.length≤s'.code.length
 off:∀ j,j<s.code.length->j∉kbs.map Prod.snd->s'.code[j]?=s.code[j]?
 pb:s.br <+: s'.br
 sl:S.length=kbs.length
 aimed:∀ n,n<kbs.length->∀ kd x,s.code[(kbs.getD n (0,0)).2]?=some (kd,x)->s'.code[(kbs.getD n (0,0)).2]?=some (kd,((S.getD n 0:Nat):Int))
 so:∀ K B,(∀ j,s.code.length≤j->j<s'.code.length->K[j]?=s'.code[j]?)->(∀ j,s.br.length≤j->j<s'.br.length->B[j]?=s'.br[j]?)->Seg T K B (.begun ((kbs.map Prod.fst).zip S)) s.code.length s'.code.length
theorem OnB.all (hp:OnP T p ok):∀ (kbs:List (Nat×Nat)) (s:CM),(∀ kb∈kbs,ok kb.1)->(kbs.map Prod.snd).Nodup->(∀ kb∈kbs,kb.2<s.code.length)->∃ S,OnB T kbs s (kbs.foldl (begunM p) s) S
 | [],s,_,_,_=>⟨[],Nat.le_refl _,fun _ _ _=>rfl,⟨[],by simp⟩,rfl,by simp,fun _ _ _ _=>.bnil⟩
 | (k,b) :: l,s,ho,hn,hb=>by
  have hnd:b∉l.map Prod.snd∧(l.map Prod.snd).Nodup:=by simpa using hn
  have hbl:=hb (k,b) (by simp)
  dsimp only at hbl
  have h1:=hp k (s.aim b) (ho (k,b) (by simp))
  have e:((k,b) :: l).foldl (begunM p) s=l.foldl (begunM p) ((p k (s.aim b)).add 24 0):=rfl
  have hal:=aim_len s b
  rw [e]
  rw [hal] at h1
  generalize p k (s.aim b)=Bd at *
  have m1:=h1.pc.length_le
  rw [hal] at m1
  have h2:=On.add Bd 24 0
  have l2:=add_len Bd 24 0
  obtain⟨S,q⟩:=OnB.all hp l (Bd.add 24 0) (fun kb hkb=>ho kb (by simp [hkb])) hnd.2 (fun kb hkb=>by have:=hb kb (by simp [hkb]);omega)
  generalize l.foldl (begunM p) (Bd.add 24 0)=F at *
  have mq:=q.len
  have hold:∀ j,j<s.code.length->(Bd.add 24 0).code[j]?=(s.aim b).code[j]?:=fun j hj=>by rw [getp_lt h2.pc (by omega),getp_lt h1.pc (by omega)]
  refine⟨s.code.length :: S,by omega,?_,?_,by simp [q.sl],?_,?_⟩
  ·intro j hj hm
   have hm:j≠b∧j∉l.map Prod.snd:=by simpa using hm
   rw [q.off j (by omega) hm.2,hold j hj,aim_ne _ _ _ (fun x=>hm.1 x.symm)]
  ·exact h1.pb.trans (h2.pb.trans q.pb)
  ·intro n hn' kd x hx
   cases n with
   | zero =>
    have hx:s.code[b]?=some (kd,x):=hx
    show F.code[b]?=some (kd,((s.code.length:Nat):Int))
    rw [q.off b (by omega) hnd.1,hold b hbl]
    exact aim_at s b kd x hx
   | succ n =>
    have hn':n<l.length:=by simpa using hn'
    have e1:(((k,b) :: l).getD (n+1) (0,0))=l.getD n (0,0):=rfl
    have e2:((s.code.length :: S).getD (n+1) 0)=S.getD n 0:=rfl
    rw [e1] at hx ⊢
    rw [e2]
    have hm:l.getD n (0,0)∈l:=by rw [getD_lt _ _ _ hn'];exact List.getElem_mem hn'
    have hne:b≠(l.getD n (0,0)).2:=fun h=>hnd.1 (List.mem_map.2 ⟨_,hm,h.symm⟩)
    have hlt:=hb _ (List.mem_cons_of_mem (k,b) hm)
    exact q.aimed n hn' kd x (by rw [hold _ hlt,aim_ne _ _ _ hne];exact hx)
  ·intro K B hK hB
   have k1:=h1.so K B (fun j a c=>by rw [hal] at a;rw [hK j a (by omega),q.off j (by omega) (fun h=>by
     obtain⟨kb,hkb,rfl⟩:=List.mem_map.1 h
     have:=hb kb (by simp [hkb]);omega),getp_lt h2.pc c]) (fun j a c=>by
     have x1:=q.pb.length_le
     have x2:(s.aim b).br=s.br:=rfl
     have x3:(Bd.add 24 0).br=Bd.br:=rfl
     rw [x3] at x1
     rw [hB j (by rw [x2] at a;exact a) (by omega),getp_lt q.pb (by rw [x3];exact c),x3])
   have k2:K[Bd.code.length]?=some (24,0):=by
    rw [hK Bd.code.length m1 (by omega),q.off Bd.code.length (by omega) (fun h=>by
     obtain⟨kb,hkb,h⟩:=List.mem_map.1 h
     have:=hb kb (by simp [hkb]);omega)]
    simp [CM.add]
   have k3:=q.so K B (fun j a c=>hK j (by omega) c) (fun j a c=>hB j (by
    have x3:(Bd.add 24 0).br=Bd.br:=rfl
    have x2:(s.aim b).br=s.br:=rfl
    have:=h1.pb.length_le
    rw [x3] at a
    rw [x2] at this
    omega) c)
   rw [l2] at k3
   show Seg T K B (.begun ((k :: l.map Prod.fst).zip (s.code.length :: S))) s.code.length F.code.length
   rw [List.zip_cons_cons]
   exact .bcons k1 k2 k3
theorem begins_is (pri:Bool) (s:CM) (lv:List Nat):∀ n,(List.range n).foldl (beginM pri) (s,lv)=({ s with code:=s.code++(List.range n).map (fun j=>((if pri=true∧j=0 then (22:Int) else 21),(0:Int))) },lv++(List.range n).map (s.code.length+·))
 | 0=>by simp
 | n+1=>by
  rw [List.range_succ,List.foldl_append,begins_is pri s lv n]
  simp only [List.foldl_cons,List.foldl_nil,List.map_append,List.map_cons,List.map_nil]
  unfold beginM
  simp [CM.add,List.append_assoc]
theorem On.beside (hp:OnP T p ok) {i:Nat} (hk:(T.getD i default).kind=8∨(T.getD i default).kind=9) (ho:∀ k∈(T.getD i default).kids,ok k) (s s':CM) (q:CM×List Nat)
  (hq:q=(List.range (T.getD i default).kids.length).foldl (beginM (decide ((T.getD i default).kind=9))) (s.add 0 0,[]))
  (hs:s'=(((T.getD i default).kids.zip q.2).foldl (begunM p) (q.1.add 23 0)).aim q.1.code.length) :
  On s s' (fun K B=>Seg T K B (.node i) s.code.length s'.code.length):=by
 have h0:=On.add s 0 0
 have l0:=add_len s 0 0
 rw [begins_is,List.nil_append,l0] at hq
 subst hq
 dsimp only at hs
 generalize hkl:(T.getD i default).kids.length=n at *
 generalize hbg:(List.range n).map (fun j=>((if decide ((T.getD i default).kind=9)=true∧j=0 then (22:Int) else 21),(0:Int)))=bg at *
 have hbl:bg.length=n:=by rw [<-hbg];simp
 have hbat:∀ j,j<n->bg[j]?=some ((if (T.getD i default).kind=9∧j=0 then (22:Int) else 21),0):=by
  intro j hj
  rw [<-hbg,List.getElem?_map,List.getElem?_range hj]
  simp
 generalize hS1:({ s.add 0 0 with code:=(s.add 0 0).code++bg }:CM)=s1 at *
 have hc1:s1.code=(s.add 0 0).code++bg:=by rw [<-hS1]
 have hb1:s1.br=s.br:=by rw [<-hS1];rfl
 rw [<-hc1] at hs
 clear hS1 hbg
 have l1:s1.code.length=s.code.length+1+n:=by rw [hc1,List.length_append,l0,hbl]
 have h2:=On.add s1 23 0
 have l2:=add_len s1 23 0
 have hsnd:((T.getD i default).kids.zip ((List.range n).map (s.code.length+1+·))).map Prod.snd=(List.range n).map (s.code.length+1+·):=by rw [List.map_snd_zip (by rw [List.length_map,List.length_range,hkl];exact Nat.le_refl _)]
 have hfst:((T.getD i default).kids.zip ((List.range n).map (s.code.length+1+·))).map Prod.fst=(T.getD i default).kids:=by rw [List.map_fst_zip (by rw [List.length_map,List.length_range,hkl];exact Nat.le_refl _)]
 obtain⟨S,h3⟩:=OnB.all hp ((T.getD i default).kids.zip ((List.range n).map (s.code.length+1+·))) (s1.add 23 0) (fun kb hkb=>ho kb.1 (List.of_mem_zip hkb).1) (by
  rw [hsnd]
  exact List.Pairwise.map _ (fun a b h=>by intro x;exact h (by omega)) List.nodup_range) (by
  intro kb hkb
  have:=(List.of_mem_zip hkb).2
  obtain⟨x,hx,hx2⟩:=List.mem_map.1 this
  have:=List.mem_range.1 hx
  omega)
 generalize ((T.getD i default).kids.zip ((List.range n).map (s.code.length+1+·))).foldl (begunM p) (s1.add 23 0)=F at *
 have h3l:=h3.len
 have hin:∀ j,j∈((T.getD i default).kids.zip ((List.range n).map (s.code.length+1+·))).map Prod.snd->s.code.length+1≤j∧j<s.code.length+1+n:=by
  intro j hj
  rw [hsnd] at hj
  obtain⟨x,hx,hx2⟩:=List.mem_map.1 hj
  have:=List.mem_range.1 hx
  omega
 have hoff:∀ j,j<s1.code.length+1->¬ (s.code.length+1≤j∧j<s.code.length+1+n)->F.code[j]?=(s1.add 23 0).code[j]?:=fun j hj hx=>h3.off j (by omega) (fun h=>hx (hin j h))
 have hF23:F.code[s1.code.length]?=some (23,0):=by
  rw [hoff _ (by omega) (by omega)]
  simp [CM.add]
 have hzl:((T.getD i default).kids.zip ((List.range n).map (s.code.length+1+·))).length=n:=by rw [List.length_zip,List.length_map,List.length_range,hkl];exact Nat.min_self n
 have hzn:∀ j,j<n->(((T.getD i default).kids.zip ((List.range n).map (s.code.length+1+·))).getD j (0,0)).2=s.code.length+1+j:=by
  intro j hj
  rw [getD_lt _ _ _ (by omega),List.getElem_zip]
  simp
 have hpb:s.br <+: F.br:=by rw [<-hb1];exact h3.pb
 have hsl:s'.code.length=F.code.length:=by rw [hs,aim_len]
 rw [hsl,hs]
 refine On.aim s1.code.length 23 0 (by omega) hF23 (prefix_of_get fun j hj=>?_) hpb ?_
 ·rw [hoff j (by omega) (by omega),getp_lt h2.pc (by omega),hc1,List.getElem?_append_left (by omega),getp_lt h0.pc hj]
 ·intro K B hK hB h23
  have k0:K[s.code.length]?=some (0,0):=by
   rw [hK _ (Nat.le_refl _) (by omega) (by omega),hoff _ (by omega) (by omega),getp_lt h2.pc (by omega),hc1,List.getElem?_append_left (by omega)]
   simp [CM.add]
  have kb:∀ j,j<S.length->K[s.code.length+1+j]?=some ((if (T.getD i default).kind=9∧j=0 then 22 else 21),((S.getD j 0:Nat):Int)):=by
   intro j hj
   rw [h3.sl,hzl] at hj
   have:=h3.aimed j (by omega) (if (T.getD i default).kind=9∧j=0 then 22 else 21) 0 (by
    rw [hzn j hj,getp_lt h2.pc (by omega),hc1,List.getElem?_append_right (by omega),l0,Nat.add_sub_cancel_left]
    exact hbat j hj)
   rw [hzn j hj] at this
   rw [hK _ (by omega) (by omega) (by omega)]
   exact this
  have k3:=h3.so K B (fun j a c=>hK j (by omega) c (by omega)) (fun j a c=>hB j (by have e:(s1.add 23 0).br=s.br:=hb1;rw [e] at a;exact a) c)
  rw [hfst,l2,l1] at k3
  rw [l1] at h23
  have hSl:S.length=n:=by rw [h3.sl,hzl]
  refine .beside hk k0 (by rw [hSl];exact hkl.symm) kb (by rw [hSl];exact h23) ?_
  rw [hSl,show s.code.length+2+n=s.code.length+1+n+1 by omega]
  exact k3
end
theorem procM_eqn (T:List PNode) (f i:Nat) (s:CM):procM T (f+1) i s =
  (let n:=T.getD i default
  if n.kind=7 then belowP T (procM T f) i s
  else if n.kind=15∨n.kind=16 then
   let s:CM:={ s with room:=max s.room (n.nd+1) }
   belowP T (procM T f) i (if n.kind=15 then s.add 11 n.nd else s)
  else if n.kind=10 then
   let s1:=exprM n.expr (s.add 0 0)
   ((belowP T (procM T f) i (s1.add 18 0)).add 19 (s.code.length:Int)).aim s1.code.length
  else if n.kind=11 then
   let p:=n.kids.foldl (whenM T (belowP T (procM T f))) (s.add 0 0,[])
   (p.1.add 20 0).aims p.2
  else if n.kind=13 then
   let p:=n.kids.foldl (onM T) (s.add 0 0,[])
   let q:=(n.kids.zip p.2).foldl (landsM (belowP T (procM T f))) (p.1.add 16 0,[])
   q.1.aims q.2
  else if n.kind=8∨n.kind=9 then
   let p:=(List.range n.kids.length).foldl (beginM (decide (n.kind=9))) (s.add 0 0,[])
   let j:=p.1.code.length
   ((n.kids.zip p.2).foldl (begunM (procM T f)) (p.1.add 23 0)).aim j
  else lineM n s):=rfl
theorem On.proc {T:List PNode} (wf:WfT T):∀ f,OnP T (procM T f) (fun i=>i<T.length∧T.length≤i+f∧procK (T.getD i default).kind)
 | 0=>fun i s h=>by omega
 | f+1=>fun i s h=>by
  obtain⟨hi,hf,hk⟩:=h
  have ih:=On.proc wf f
  have kid:∀ j,j<T.length->i≤j->(T.getD j default).kind≠11->(T.getD j default).kind≠13->∀ k∈(T.getD j default).kids,k<T.length∧T.length≤k+f∧procK (T.getD k default).kind:=by
   intro j hj hij h1 h2 k hk
   have:=wf.up j k hk
   exact⟨this.2,by omega,wf.kids j hj h1 h2 k hk⟩
  unfold procK at hk
  have e:=procM_eqn T f i s
  dsimp only at e
  by_cases h7:(T.getD i default).kind=7
  ·rw [if_pos h7] at e
   rw [e]
   exact (On.nodes ih _ s (kid i hi (Nat.le_refl _) (by omega) (by omega))).mono fun K B x=>.seq h7 x
  ·rw [if_neg h7] at e
   by_cases h15:(T.getD i default).kind=15∨(T.getD i default).kind=16
   ·rw [if_pos h15] at e
    rw [e]
    have hkid:=kid i hi (Nat.le_refl _) (by omega) (by omega)
    generalize hr:max s.room ((T.getD i default).nd+1)=r
    have hs:On s { s with room:=r } (fun _ _=>True):=⟨⟨[],by simp⟩,⟨[],by simp⟩,fun _ _ _ _=>trivial⟩
    by_cases h15':(T.getD i default).kind=15
    ·rw [if_pos h15']
     refine (hs.trans (On.add _ 11 _) (fun K B _ x=>x)).trans (On.nodes ih _ _ hkid) fun K B a b=>?_
     rw [add_len] at b
     exact .var h15' a b
    ·rw [if_neg h15']
     exact hs.trans (On.nodes ih _ _ hkid) fun K B _ b=>.chan (by omega) b
   ·rw [if_neg h15] at e
    by_cases h10:(T.getD i default).kind=10
    ·rw [if_pos h10] at e
     exact On.loop ih h10 (wf.asks i hi h10) (kid i hi (Nat.le_refl _) (by omega) (by omega)) s _ e
    ·rw [if_neg h10] at e
     by_cases h11:(T.getD i default).kind=11
     ·rw [if_pos h11] at e
      refine On.choice ih h11 (fun k hkk=>?_) s _ e
      have hw:=wf.whens i hi h11 k hkk
      have hu:=wf.up i k hkk
      exact⟨hw.2,kid k hu.2 (by omega) (by omega) (by omega)⟩
     ·rw [if_neg h11] at e
      by_cases h13:(T.getD i default).kind=13
      ·rw [if_pos h13] at e
       refine On.alt ih h13 (fun k hkk=>?_) s _ _ rfl _ rfl e
       have hw:=wf.ons i hi h13 k hkk
       have hu:=wf.up i k hkk
       exact⟨hw.2,kid k hu.2 (by omega) (by omega) (by omega)⟩
      ·rw [if_neg h13] at e
       by_cases h8:(T.getD i default).kind=8∨(T.getD i default).kind=9
       ·rw [if_pos h8] at e
        exact On.beside ih h8 (kid i hi (Nat.le_refl _) h11 h13) s _ _ rfl e
       ·rw [if_neg h8] at e
        rw [e]
        exact On.line s (by omega) (wf.line i hi)
theorem makeF_seg {T:List PNode} (wf:WfT T) (r:Nat) (hr:r<T.length) (hk:procK (T.getD r default).kind) :
  ∃ b,(makeF T r).code.length=b+1∧Seg T (makeF T r).code (makeF T r).br (.node r) 0 b∧(makeF T r).code[b]?=some (24,0):=by
 have h1:=On.proc wf T.length r ⟨[],[],3⟩ ⟨hr,by omega,hk⟩
 have h2:=On.add (procM T T.length r ⟨[],[],3⟩) 24 0
 have e:makeF T r=(procM T T.length r ⟨[],[],3⟩).add 24 0:=rfl
 rw [e]
 generalize procM T T.length r ⟨[],[],3⟩=P at *
 refine⟨P.code.length,add_len _ _ _,?_,by simp [CM.add]⟩
 exact h1.so _ _ (fun j _ h=>getp_lt h2.pc h) (fun j _ h=>getp_lt h2.pb h)
end Go.Proofs.YtnhidaamfnjdjaaGreatDoor
