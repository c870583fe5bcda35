import Derived.Test.YtnhidaamfnjdjaaGreatDoorZPure
import Derived.IntWalk
namespace Go.Proofs.YtnhidaamfnjdjaaGreatDoor
open Go.RowKit
def KRow (E:Nat->Nat):Nat->List Nat->Nat->Prop
 | a,[],e=>a=e
 | a,k :: ks,e=>k=a∧k<E k∧KRow E (E k) ks e
theorem KRow.le {E:Nat->Nat}:∀ {ks:List Nat} {a e:Nat},KRow E a ks e->a≤e
 | [],_,_,h=>Nat.le_of_eq h
 | k :: ks,a,e,⟨h1,h2,h3⟩=>by have:=h3.le;omega
theorem KRow.mem {E:Nat->Nat}:∀ {ks:List Nat} {a e:Nat},KRow E a ks e->∀ k∈ks,a≤k∧k<E k∧E k≤e
 | [],_,_,_,k,hk=>by simp at hk
 | j :: ks,a,e,⟨h1,h2,h3⟩,k,hk=>by
  have hle:=h3.le
  simp only [List.mem_cons] at hk
  rcases hk with rfl|hk
  ·omega
  ·have:=h3.mem k hk;omega
theorem KRow.same {E E':Nat->Nat}:∀ {ks:List Nat} {a e:Nat},KRow E a ks e->(∀ k∈ks,E' k=E k)->KRow E' a ks e
 | [],_,_,h,_=>h
 | k :: ks,a,e,⟨h1,h2,h3⟩,h=>by
  have hk:=h k (by simp)
  refine⟨h1,by omega,?_⟩
  rw [hk]
  exact h3.same (fun j hj=>h j (by simp [hj]))
theorem KRow.more {E:Nat->Nat}:∀ {ks:List Nat} {a e:Nat},KRow E a ks e->e<E e->KRow E a (ks++[e]) (E e)
 | [],a,e,h,he=>by
  have h:a=e:=h
  subst h
  exact⟨rfl,he,rfl⟩
 | k :: ks,a,e,⟨h1,h2,h3⟩,he=>⟨h1,h2,h3.more he⟩
theorem KRow.last {E E':Nat->Nat} {l e':Nat}:∀ {ks:List Nat} {a e:Nat},KRow E a ks e->ks.getLast?=some l->(∀ k,k<e->E k≠e->E' k=E k)->E' l=e'->l<e'->KRow E' a ks e'
 | [],_,_,_,h,_,_,_=>by simp at h
 | [k],a,e,⟨h1,h2,h3⟩,h,_,h5,h6=>by
  simp at h
  subst h
  exact⟨h1,by omega,h5⟩
 | k :: j :: ks,a,e,⟨h1,h2,h3⟩,h,h4,h5,h6=>by
  have hj:=h3.mem j (by simp)
  have hk:E' k=E k:=h4 k (by omega) (by omega)
  refine⟨h1,by omega,?_⟩
  rw [hk]
  exact KRow.last h3 (by simpa using h) h4 h5 h6
structure Walked (s:PS) (E par:Nat->Nat):Prop where
 row:∀ i,i<s.nodes.length->KRow E (i+1) (s.at i).kids (E i)
 top:∀ i,i<s.nodes.length->E i≤s.nodes.length
 par:∀ i,∀ k∈(s.at i).kids,par k=i
 ends:∀ j∈s.chain,E j=s.nodes.length
 lt:∀ j∈s.chain,j<s.nodes.length
 inc:s.chain.Pairwise (·<·)
 head:s.chain.head?=some 0
 link:∀ (t a b:Nat),s.chain[t]?=some a->s.chain[t+1]?=some b->(s.at a).kids.getLast?=some b
theorem startP_walked:Walked startP (fun _=>1) (fun _=>0) where
 row:=by intro i hi;simp [startP] at hi;subst hi;simp [startP,PS.at,KRow]
 top:=by intro i hi;simp [startP]
 par:=by
  intro i k hk
  cases i with
  | zero=>simp [startP,PS.at] at hk
  | succ i=>simp [startP,PS.at,default] at hk
 ends:=by simp [startP]
 lt:=by simp [startP]
 inc:=by simp [startP]
 head:=rfl
 link:=by
  intro t a b h1 h2
  simp [startP] at h2
theorem put_at (s:PS) (d:Nat) (p:LP) (number:Int) (ha:s.above d<s.nodes.length) (i:Nat):(s.put d p number).at i=if i=s.above d then addKid s.nodes.length (s.at i) else if i=s.nodes.length then newNode p number else s.at i:=by
 unfold PS.at PS.put
 simp only [List.getD]
 rcases Nat.lt_trichotomy i s.nodes.length with h|h|h
 ·rw [List.getElem?_append_left (by simpa using h),List.getElem?_set]
  by_cases e:s.above d=i
  ·subst e;simp [h,PS.at,List.getD]
  ·have e':¬ i=s.above d:=fun x=>e x.symm
   have e2:¬ i=s.nodes.length:=by omega
   simp [e,e',e2]
 ·subst h
  have e':¬ s.nodes.length=s.above d:=by omega
  simp [e']
 ·have e':¬ i=s.above d:=by omega
  have e2:¬ i=s.nodes.length:=by omega
  rw [List.getElem?_eq_none (by simp;omega),if_neg e',if_neg e2,List.getElem?_eq_none (by omega)]
theorem Walked.put {s:PS} {E par:Nat->Nat} (h:Walked s E par) (d:Nat) (hd:d<s.chain.length) (p:LP) (number:Int) :
  Walked (s.put d p number) (fun j=>if j∈s.chain.take (d+1)∨j=s.nodes.length then s.nodes.length+1 else E j) (fun k=>if k=s.nodes.length then s.above d else par k):=by
 have hab:s.chain[d]?=some (s.above d):=by
  unfold PS.above;simp [List.getD,List.getElem?_eq_getElem hd]
 have ha:s.above d<s.nodes.length:=h.lt _ (List.mem_of_getElem? hab)
 have hin:s.above d∈s.chain.take (d+1):=by
  refine List.mem_of_getElem? (i:=d) ?_
  rw [List.getElem?_take,if_pos (by omega)];exact hab
 have hkid:∀ i,i<s.nodes.length->∀ k∈(s.at i).kids,i<k∧k<s.nodes.length:=by
  intro i hi k hk
  have:=(h.row i hi).mem k hk
  have:=h.top i hi
  omega
 -- the chain's places,from below
 have hmono:∀ (t u a b:Nat),s.chain[t]?=some a->s.chain[u]?=some b->t<u->a<b:=by
  intro t u a b h1 h2 htu
  obtain⟨h3,rfl⟩:=List.getElem?_eq_some_iff.1 h1
  obtain⟨h4,rfl⟩:=List.getElem?_eq_some_iff.1 h2
  exact List.pairwise_iff_getElem.1 h.inc t u h3 h4 htu
 -- a kid that stands in the chain's first part has the one before it above itself
 have hup:∀ i k,i<s.nodes.length->k∈(s.at i).kids->k∈s.chain.take (d+1)->∃ t,t<d∧s.chain[t]?=some i∧s.chain[t+1]?=some k:=by
  intro i k hi hk hc
  obtain⟨t,ht⟩:=List.getElem?_of_mem hc
  rw [List.getElem?_take] at ht
  split at ht
  ·rename_i htd
   cases t with
   | zero =>
    have:=h.head
    rw [List.head?_eq_getElem?,ht] at this
    injection this with this
    have:=hkid i hi k hk
    omega
   | succ t =>
    cases hpt:s.chain[t]? with
    | none =>
     rw [List.getElem?_eq_none_iff] at hpt
     rw [List.getElem?_eq_none (by omega)] at ht
     cases ht
    | some a =>
     have hl:=h.link t a k hpt ht
     have h1:=h.par a k (List.mem_of_getLast? hl)
     have h2:=h.par i k hk
     rw [h1] at h2
     subst h2
     exact⟨t,by omega,hpt,ht⟩
  ·cases ht
 have hlen:(s.put d p number).nodes.length=s.nodes.length+1:=by simp [PS.put]
 have hat:=put_at s d p number ha
 have hkids:∀ i,((s.put d p number).at i).kids=if i=s.above d then (s.at i).kids++[s.nodes.length] else if i=s.nodes.length then [] else (s.at i).kids:=by
  intro i
  rw [hat i]
  split
  ·rfl
  ·split <;> rfl
 have hlast:∀ k,k<s.nodes.length->E k≠s.nodes.length->(if k∈s.chain.take (d+1)∨k=s.nodes.length then s.nodes.length+1 else E k)=E k:=by
  intro k hk hE
  rw [if_neg]
  rintro (h1|h1)
  ·exact hE (h.ends k (List.mem_of_mem_take h1))
  ·omega
 refine⟨?_,?_,?_,?_,?_,?_,?_,?_⟩
 ·intro i hi
  rw [hlen] at hi
  rw [hkids i]
  by_cases e1:i=s.above d
  ·subst e1
   rw [if_pos rfl]
   have hrow:=h.row _ ha
   rw [h.ends _ (List.mem_of_getElem? hab)] at hrow
   have hsame:=KRow.same (E':=fun j=>if j∈s.chain.take (d+1)∨j=s.nodes.length then s.nodes.length+1 else E j) hrow (fun k hk=>by
    have hk2:=hkid _ ha k hk
    rw [if_neg]
    rintro (h1|h1)
    ·obtain⟨t,ht,h2,_⟩:=hup _ k ha hk h1
     have:=hmono t d _ _ h2 hab ht
     omega
    ·omega)
   have:=hsame.more (by simp)
   simp only [or_true,if_true] at this
   simpa [hin] using this
  ·rw [if_neg e1]
   by_cases e2:i=s.nodes.length
   ·subst e2
    simp [KRow]
   ·rw [if_neg e2]
    have hi':i<s.nodes.length:=by omega
    have hrow:=h.row i hi'
    by_cases hc:i∈s.chain.take (d+1)
    ·have hE:=h.ends i (List.mem_of_mem_take hc)
     rw [hE] at hrow
     simp only [hc,true_or,if_true]
     obtain⟨t,ht⟩:=List.getElem?_of_mem hc
     rw [List.getElem?_take] at ht
     split at ht
     ·rename_i htd
      have htd':t<d:=by
       rcases Nat.lt_or_ge t d with x|x
       ·exact x
       ·have:t=d:=by omega
        subst this
        rw [hab] at ht
        injection ht with ht
        exact absurd ht.symm e1
      have hn:t+1<s.chain.length:=by omega
      have hl:=h.link t i s.chain[t+1] ht (List.getElem?_eq_getElem hn)
      have hm:s.chain[t+1]∈s.chain.take (d+1):=by
       refine List.mem_of_getElem? (i:=t+1) ?_
       rw [List.getElem?_take,if_pos (by omega)];exact List.getElem?_eq_getElem hn
      refine hrow.last hl hlast (by simp only [hm,true_or,if_true]) ?_
      have:=h.lt _ (List.getElem_mem hn)
      omega
     ·cases ht
    ·have:(if i∈s.chain.take (d+1)∨i=s.nodes.length then s.nodes.length+1 else E i)=E i:=by
      rw [if_neg];rintro (h1|h1)
      ·exact hc h1
      ·exact e2 h1
     simp only [this]
     refine hrow.same (fun k hk=>?_)
     have hk2:=hkid i hi' k hk
     rw [if_neg]
     rintro (h1|h1)
     ·obtain⟨t,ht,h2,_⟩:=hup i k hi' hk h1
      refine hc (List.mem_of_getElem? (i:=t) ?_)
      rw [List.getElem?_take,if_pos (by omega)];exact h2
     ·omega
 ·intro i hi
  rw [hlen] at hi ⊢
  split
  ·exact Nat.le_refl _
  ·rename_i hne
   have:i<s.nodes.length:=by
    rcases Nat.lt_or_ge i s.nodes.length with x|x
    ·exact x
    ·exact absurd (.inr (by omega)) hne
   have:=h.top i this
   omega
 ·intro i k hk
  rw [hkids i] at hk
  split at hk
  ·rename_i e1
   simp only [List.mem_append,List.mem_singleton] at hk
   rcases hk with hk|hk
   ·subst e1
    have:=hkid _ ha k hk
    rw [if_neg (by omega)]
    exact h.par _ k hk
   ·rw [if_pos hk];exact e1.symm
  ·split at hk
   ·simp at hk
   ·have hi:i<s.nodes.length:=by
     rcases Nat.lt_or_ge i s.nodes.length with x|x
     ·exact x
     ·unfold PS.at at hk;rw [getD_ge _ _ _ x] at hk;simp [default] at hk
    have:=hkid i hi k hk
    rw [if_neg (by omega)]
    exact h.par i k hk
 ·intro j hj
  rw [hlen]
  simp only [PS.put,List.mem_append,List.mem_singleton] at hj
  exact if_pos hj
 ·intro j hj
  rw [hlen]
  simp only [PS.put,List.mem_append,List.mem_singleton] at hj
  rcases hj with hj|rfl
  ·have:=h.lt j (List.mem_of_mem_take hj);omega
  ·omega
 ·simp only [PS.put]
  rw [List.pairwise_append]
  refine⟨h.inc.sublist (List.take_sublist _ _),List.pairwise_singleton _ _,?_⟩
  intro a ha b hb
  simp at hb
  subst hb
  exact h.lt a (List.mem_of_mem_take ha)
 ·simp only [PS.put]
  have:=h.head
  cases hc:s.chain with
  | nil=>rw [hc] at this;simp at this
  | cons x l=>rw [hc] at this;simpa using this
 ·intro t a b h1 h2
  simp only [PS.put] at h1 h2
  have hl:(s.chain.take (d+1)).length=d+1:=by simp;omega
  rw [hkids a]
  rcases Nat.lt_trichotomy t d with x|x|x
  ·rw [List.getElem?_append_left (by omega),List.getElem?_take,if_pos (by omega)] at h1 h2
   have:=hmono t d _ _ h1 hab x
   have h3:=h.lt a (List.mem_of_getElem? h1)
   rw [if_neg (by omega),if_neg (by omega)]
   exact h.link t a b h1 h2
  ·subst x
   rw [List.getElem?_append_left (by omega),List.getElem?_take,if_pos (by omega),hab] at h1
   injection h1 with h1
   subst h1
   rw [List.getElem?_append_right (by omega),hl] at h2
   simp at h2
   subst h2
   rw [if_pos rfl]
   simp
  ·rw [List.getElem?_eq_none (by simp;omega)] at h2
   cases h2
theorem Walked.add {s:PS} {E par:Nat->Nat} (h:Walked s E par) (l:Bs) (n:Int):∃ E' par',Walked (s.add l n).1 E' par':=by
 unfold PS.add
 split
 ·exact⟨E,par,h⟩
 ·split
  ·exact⟨E,par,h⟩
  ·split
   ·exact⟨E,par,h⟩
   ·rename_i h2
    dsimp only
    split
    ·exact⟨E,par,h⟩
    ·refine⟨_,_,h.put _ ?_ _ _⟩
     have:s.fits ((l.length - (trimB l).length) / 2)=true:=by
      rcases Bool.eq_false_or_eq_true (s.fits ((l.length - (trimB l).length) / 2)) with x|x
      ·exact x
      ·exact absurd (.inr x) h2
     exact PS.fits_lt this
theorem upTo_walked (ls:List Bs):∀ k,∃ E par,Walked (upTo ls k) E par
 | 0=>⟨_,_,startP_walked⟩
 | k+1=>by
  obtain⟨E,par,h⟩:=upTo_walked ls k
  exact h.add _ _
def InR (d:Int):Prop:=0≤d∧d<2000
def PE.In:PE->Prop
 | .nil=>True
 | .num _=>True
 | .var _ d=>InR d
 | .pair _ a b=>a.In∧b.In
structure NIn (n:PNode):Prop where
 nd:InR n.nd
 cd:InR n.cd
 expr:n.expr.In
theorem zeroR:InR 0:=by unfold InR;omega
theorem NIn.dflt:NIn default:=⟨zeroR,zeroR,trivial⟩
theorem fromF_in {f:RS->PE×RS} (hf:∀ σ,(f σ).1.In) (p:PE×RS) (hp:p.1.In):(fromF f p).1.In:=by
 unfold fromF;split
 ·exact⟨hp,hf _⟩
 ·exact hp
theorem leafF_in (σ:RS):(leafF σ).1.In:=by
 unfold leafF;split
 ·trivial
 ·exact zeroR
theorem operandF_in:∀ (n:Nat) (σ:RS),(operandF n σ).1.In
 | 0,σ=>by
  unfold operandF;split
  ·trivial
  ·exact leafF_in σ
 | n+1,σ=>by
  unfold operandF;split
  ·exact fromF_in (operandF_in n) _ (operandF_in n _)
  ·exact leafF_in σ
theorem exprF_in (n:Nat) (σ:RS):(exprF n σ).1.In:=fromF_in (operandF_in n) _ (operandF_in n _)
theorem guardedF_in (g:PE) (σ:RS) (h:g.In):(guardedF g σ).1.expr.In:=h
theorem readF_in (k:Int) (ch:Bs) (σ:RS):(readF k ch σ).1.expr.In:=trivial
theorem writeF_in (ch:Bs) (σ:RS):(writeF ch σ).1.expr.In:=exprF_in _ _
theorem onNameF_in (nm:Bs) (σ:RS):(onNameF nm σ).1.expr.In:=by
 unfold onNameF;split
 ·exact exprF_in _ _
 ·split
  ·exact writeF_in _ _
  ·exact readF_in _ _ _
theorem branchF_in (σ:RS):(branchF σ).1.expr.In:=by
 unfold branchF;split
 ·exact readF_in _ _ _
 ·split
  ·exact guardedF_in _ _ (exprF_in _ _)
  ·split
   ·exact readF_in _ _ _
   ·exact guardedF_in _ _ (fromF_in (operandF_in _) _ zeroR)
theorem ite_in {c:Prop} [Decidable c] {a b:LP×RS} (ha:a.1.expr.In) (hb:b.1.expr.In):(if c then a else b).1.expr.In:=by
 split
 ·exact ha
 ·exact hb
theorem processF_in (σ:RS):(processF σ).1.expr.In :=
 ite_in trivial (ite_in trivial (ite_in trivial (ite_in trivial (ite_in trivial (ite_in trivial (ite_in trivial (ite_in (exprF_in _ _) (ite_in (exprF_in _ _) (ite_in trivial (ite_in trivial (ite_in (readF_in _ _ _) (ite_in (writeF_in _ _) (onNameF_in _ _)))))))))))))
theorem lineF_in (above:Int) (σ:RS):(lineF above σ).1.expr.In:=by
 unfold lineF;split
 ·exact exprF_in _ _
 ·split
  ·exact branchF_in _
  ·exact processF_in _
theorem readLineF_in (body:Bs) (above:Int):(readLineF body above).1.expr.In:=lineF_in _ _
theorem upTo_in (ls:List Bs):∀ k,∀ n∈(upTo ls k).nodes,NIn n
 | 0=>by
  intro n hn
  simp [upTo,startP] at hn
  subst hn
  exact⟨zeroR,zeroR,trivial⟩
 | k+1=>by
  have ih:=upTo_in ls k
  show ∀ n∈((upTo ls k).add _ _).1.nodes,NIn n
  generalize upTo ls k=s at ih
  unfold PS.add
  split
  ·exact ih
  ·split
   ·exact ih
   ·split
    ·exact ih
    ·dsimp only
     split
     ·exact ih
     ·intro n hn
      simp only [PS.put,List.mem_append,List.mem_singleton] at hn
      rcases hn with hn|rfl
      ·rcases List.mem_or_eq_of_mem_set hn with hn|rfl
       ·exact ih n hn
       ·have:NIn (s.at (s.above ((List.length (ls.getD k []) - List.length (trimB (ls.getD k []))) / 2))):=by
         generalize s.above _=j
         unfold PS.at
         rcases Nat.lt_or_ge j s.nodes.length with x|x
         ·rw [getD_lt _ _ _ x];exact ih _ (List.getElem_mem x)
         ·rw [getD_ge _ _ _ x];exact NIn.dflt
        exact⟨this.nd,this.cd,this.expr⟩
      ·exact⟨zeroR,zeroR,readLineF_in _ _⟩
structure StIn (st:RV×List PNode):Prop where
 nodes:∀ i,NIn (st.2.getD i default)
 hold:∀ d∈st.1.hold,InR d.num
 next:0≤st.1.next
theorem nearestF_in:∀ (l:List DC) (t:Bs),(∀ d∈l,InR d.num)->InR (nearestF l t).num
 | [],_,_=>zeroR
 | d :: l,t,h=>by
  unfold nearestF
  split
  ·exact nearestF_in l t (fun x hx=>h x (by simp [hx]))
  ·split
   ·exact h d (by simp)
   ·exact zeroR
theorem resolveF_in (r:RV) (t:Bs) (old must line:Int) (h:∀ d∈r.hold,InR d.num) (ho:InR old):InR (resolveF r t old must line).2∧(resolveF r t old must line).1.hold=r.hold∧(resolveF r t old must line).1.next=r.next:=by
 unfold resolveF;split
 ·exact⟨nearestF_in _ _ h,rfl,rfl⟩
 ·exact⟨ho,rfl,rfl⟩
theorem eachF_in (line:Int):∀ (e:PE) (r:RV),(∀ d∈r.hold,InR d.num)->e.In->(eachF line r e).2.In∧(eachF line r e).1.hold=r.hold∧(eachF line r e).1.next=r.next
 | .nil,_,_,_=>⟨trivial,rfl,rfl⟩
 | .num _,_,_,_=>⟨trivial,rfl,rfl⟩
 | .var n d,r,h,he=>resolveF_in r n d 15 line h he
 | .pair op a b,r,h,he=>by
  have h1:=eachF_in line a r h he.1
  have h2:=eachF_in line b (eachF line r a).1 (by rw [h1.2.1];exact h) he.2
  exact⟨⟨h1.1,h2.1⟩,h2.2.1.trans h1.2.1,h2.2.2.trans h1.2.2⟩
theorem nameOf_in (r:RV) (n:PNode) (h:∀ d∈r.hold,InR d.num) (hn:NIn n):NIn (nameOf r n).2∧(nameOf r n).1.hold=r.hold∧(nameOf r n).1.next=r.next :=
 have k:=resolveF_in r n.name n.nd 15 n.line h hn.nd
 ⟨⟨k.1,hn.cd,hn.expr⟩,k.2⟩
theorem chanOf_in (r:RV) (n:PNode) (h:∀ d∈r.hold,InR d.num) (hn:NIn n):NIn (chanOf r n).2∧(chanOf r n).1.hold=r.hold∧(chanOf r n).1.next=r.next :=
 have k:=resolveF_in r n.chan n.cd 16 n.line h hn.cd
 ⟨⟨hn.nd,k.1,hn.expr⟩,k.2⟩
theorem headOf_in (r:RV) (n:PNode) (h:∀ d∈r.hold,InR d.num) (hn:NIn n):NIn (headOf r n).2∧(headOf r n).1.hold=r.hold∧(headOf r n).1.next=r.next:=by
 unfold headOf;split
 ·exact nameOf_in r n h hn
 ·split
  ·exact chanOf_in r n h hn
  ·split
   ·have h1:=chanOf_in r n h hn
    have h2:=nameOf_in (chanOf r n).1 (chanOf r n).2 (by rw [h1.2.1];exact h) h1.1
    exact⟨h2.1,h2.2.1.trans h1.2.1,h2.2.2.trans h1.2.2⟩
   ·exact⟨hn,rfl,rfl⟩
theorem exprOf_in (r:RV) (n:PNode) (h:∀ d∈r.hold,InR d.num) (hn:NIn n):NIn (exprOf r n).2∧(exprOf r n).1.hold=r.hold∧(exprOf r n).1.next=r.next :=
 have k:=eachF_in n.line n.expr r h hn.expr
 ⟨⟨hn.nd,hn.cd,k.1⟩,k.2⟩
theorem set_in {ns:List PNode} (h:∀ i,NIn (ns.getD i default)) (i:Nat) (n:PNode) (hn:NIn n) (j:Nat):NIn ((ns.set i n).getD j default):=by
 simp only [List.getD,List.getElem?_set]
 split
 ·split
  ·exact hn
  ·exact NIn.dflt
 ·exact h j
theorem nameF_in (ns:List PNode) (E:Nat->Nat) (hrow:∀ i,i<ns.length->KRow E (i+1) (ns.getD i default).kids (E i)) (htop:∀ i,i<ns.length->E i≤ns.length) :
  ∀ (f:Nat) (st:RV×List PNode) (i:Nat),SameShape ns st.2->i<ns.length->StIn st->st.1.next+((E i:Int) - (i:Int))≤2000->StIn (nameF f st i)∧(nameF f st i).1.next≤st.1.next+((E i:Int) - (i:Int))
 | 0,st,i,_,hi,h,_=>by
  have:=(hrow i hi).le
  exact⟨h,by show st.1.next≤_;omega⟩
 | f+1,st,i,hsh,hi,h,hlim=>by
  have hE:=(hrow i hi).le
  have key:∀ (l:List Nat) (a e:Nat) (x:RV×List PNode),KRow E a l e->e≤ns.length->SameShape ns x.2->StIn x->x.1.next+((e:Int) - (a:Int))≤2000->StIn (l.foldl (nameF f) x)∧(l.foldl (nameF f) x).1.next≤x.1.next+((e:Int) - (a:Int)):=by
   intro l
   induction l with
   | nil =>
    intro a e x hr _ _ hx _
    have hr:a=e:=hr
    exact⟨hx,by show x.1.next≤_;omega⟩
   | cons k l ih =>
    intro a e x hr he hs hx hb
    obtain⟨h1,h2,h3⟩:=hr
    have h4:=h3.le
    have hk:k<ns.length:=by omega
    have g:=nameF_in ns E hrow htop f x k hs hk hx (by omega)
    have g2:=ih (E k) e (nameF f x k) h3 he (hs.trans (nameF_keep f x k).1) g.1 (by omega)
    refine⟨g2.1,?_⟩
    have:=g2.2
    rw [List.foldl_cons]
    omega
  have hkids:(st.2.getD i default).kids=(ns.getD i default).kids:=hsh.kids i
  have hr:=hrow i hi
  rw [<-hkids] at hr
  have ht:=htop i hi
  unfold nameF
  dsimp only
  split
  ·have hw:wrap64 (st.1.next+1)=st.1.next+1:=IntWalk.wrap64_in _ (by have:=h.next;omega)
   have g:=key _ (i+1) (E i) (pushF st.1 (st.2.getD i default),st.2.set i { st.2.getD i default with nd:=st.1.next }) hr ht
    (hsh.trans (SameShape.set st.2 i { st.2.getD i default with nd:=st.1.next } rfl rfl))
    ⟨set_in h.nodes i _ ⟨⟨h.next,by show st.1.next<2000;omega⟩,(h.nodes i).cd,(h.nodes i).expr⟩,by
     intro d hd
     simp only [pushF,List.mem_append,List.mem_singleton] at hd
     rcases hd with hd|rfl
     ·exact h.hold d hd
     ·exact⟨h.next,by show st.1.next<2000;omega⟩,by
     show 0≤wrap64 (st.1.next+1)
     rw [hw];have:=h.next;omega⟩
    (by show wrap64 (st.1.next+1)+_≤_;rw [hw];omega)
   generalize List.foldl (nameF f) _ _=q at g ⊢
   refine⟨⟨g.1.nodes,fun d hd=>g.1.hold d (List.dropLast_subset _ hd),g.1.next⟩,?_⟩
   have g2:q.1.next≤wrap64 (st.1.next+1)+((E i:Int) - ((i+1:Nat):Int)):=g.2
   rw [hw] at g2
   show q.1.next≤_
   omega
  ·have h1:=headOf_in st.1 (st.2.getD i default) h.hold (h.nodes i)
   have h2:=exprOf_in (headOf st.1 (st.2.getD i default)).1 (headOf st.1 (st.2.getD i default)).2 (by rw [h1.2.1];exact h.hold) h1.1
   have hh:=headOf_same st.1 (st.2.getD i default)
   have hnx:(exprOf (headOf st.1 (st.2.getD i default)).1 (headOf st.1 (st.2.getD i default)).2).1.next=st.1.next:=h2.2.2.trans h1.2.2
   have g:=key _ (i+1) (E i) ((exprOf (headOf st.1 (st.2.getD i default)).1 (headOf st.1 (st.2.getD i default)).2).1,st.2.set i (exprOf (headOf st.1 (st.2.getD i default)).1 (headOf st.1 (st.2.getD i default)).2).2) hr ht
    (hsh.trans (SameShape.set st.2 i _ hh.1 hh.2.1))
    ⟨set_in h.nodes i _ h2.1,by
     show ∀ d∈(exprOf _ _).1.hold,InR d.num
     rw [h2.2.1,h1.2.1];exact h.hold,by
     show 0≤(exprOf _ _).1.next
     rw [hnx];exact h.next⟩
    (by show (exprOf _ _).1.next+_≤_;rw [hnx];omega)
   generalize List.foldl (nameF f) _ _=q at g ⊢
   refine⟨g.1,?_⟩
   have g2:q.1.next≤(exprOf (headOf st.1 (st.2.getD i default)).1 (headOf st.1 (st.2.getD i default)).2).1.next+((E i:Int) - ((i+1:Nat):Int)):=g.2
   rw [hnx] at g2
   omega
theorem asks_in:∀ e:PE,e.In->UseOk (asks e)
 | .nil,_=>by intro p hp;simp [asks] at hp
 | .num _,_=>by intro p hp;simp [asks] at hp
 | .var n d,h=>by intro p hp;simp [asks] at hp;subst hp;exact⟨h,by show (2:Nat)<16;decide⟩
 | .pair op a b,h=>(asks_in a h.1).append (asks_in b h.2)
theorem ownU_in (n:PNode) (h:NIn n):UseOk (ownU n):=by
 refine UseOk.append ?_ (asks_in _ h.expr)
 unfold headU
 intro p hp
 split at hp
 ·simp at hp;subst hp;exact⟨h.nd,by show (1:Nat)<16;decide⟩
 ·split at hp
  ·simp at hp;subst hp;exact⟨h.cd,by show (4:Nat)<16;decide⟩
  ·split at hp
   ·simp at hp
    rcases hp with rfl|rfl
    ·exact⟨h.cd,by show (8:Nat)<16;decide⟩
    ·exact⟨h.nd,by show (1:Nat)<16;decide⟩
   ·simp at hp
theorem splitK_len (sep:Bs) (save:Nat) (hs:sep.length=1) (h0:Lib.index [] sep=-1):∀ (k:Nat) (s:Bs),(Lib.splitK sep save k s).length≤s.length+1
 | 0,s=>by simp [Lib.splitK]
 | k+1,s=>by
  unfold Lib.splitK
  split
  ·simp
  ·rename_i h
   have ih:=splitK_len sep save hs h0 k (s.drop ((Lib.index s sep).toNat+sep.length))
   cases s with
   | nil=>rw [h0] at h;simp at h
   | cons c s =>
    simp only [List.length_cons,List.length_drop] at ih ⊢
    omega
theorem linesF_len (text:Bs):(linesF text).length≤text.length+1:=splitK_len _ _ rfl (by decide) _ _
end Go.Proofs.YtnhidaamfnjdjaaGreatDoor
namespace Go.Proofs.YtnhidaamfnjdjaaGreatDoor
open Go.RowKit
theorem index_no:∀ s:Bs,(10:UInt8)∉s->Lib.index s [10]=-1
 | [],_=>rfl
 | c :: s,h=>by
  simp only [List.mem_cons,not_or] at h
  have h1:([10]:Bs).isPrefixOf (c :: s)=false:=by simp [List.isPrefixOf,h.1]
  unfold Lib.index
  rw [h1,index_no s h.2]
  rfl
theorem index_at:∀ (l r:Bs),(10:UInt8)∉l->Lib.index (l++10 :: r) [10]=(l.length:Int)
 | [],r,_=>by simp [Lib.index,List.isPrefixOf]
 | c :: l,r,h=>by
  simp only [List.mem_cons,not_or] at h
  have h1:([10]:Bs).isPrefixOf (c :: (l++10 :: r))=false:=by simp [List.isPrefixOf,h.1]
  have e:Lib.index (c :: l++10 :: r) [10]=if ([10]:Bs).isPrefixOf (c :: (l++10 :: r)) then 0 else if Lib.index (l++10 :: r) [10] == -1 then -1 else Lib.index (l++10 :: r) [10]+1:=rfl
  rw [e,h1,index_at l r h.2]
  simp only [Bool.false_eq_true,if_false]
  rw [if_neg (by simp)]
  simp
theorem count_at:∀ (f:Nat) (s:Bs),s.length<f->Lib.countFrom [10] f s=s.count 10
 | 0,s,h=>by omega
 | f+1,s,h=>by
  unfold Lib.countFrom
  by_cases hm:(10:UInt8)∈s
  ·obtain⟨l,r,rfl,hl⟩:=List.eq_append_cons_of_mem hm
   rw [index_at l r hl,if_neg (by simp)]
   have:(l++10 :: r).drop (Int.toNat (l.length:Int)+([10]:Bs).length)=r:=by
    simp [List.drop_append]
   rw [this,count_at f r (by simp at h;omega)]
   rw [List.count_append,List.count_eq_zero.2 hl,List.count_cons_self]
   omega
  ·rw [index_no s hm,List.count_eq_zero.2 hm]
   rfl
theorem split_no (k:Nat) (s:Bs) (h:(10:UInt8)∉s):Lib.splitK [10] 0 k s=[s]:=by
 cases k with
 | zero=>rfl
 | succ k=>unfold Lib.splitK;rw [index_no s h];rfl
theorem linesF_no (s:Bs) (h:(10:UInt8)∉s):linesF s=[s]:=split_no _ s h
theorem linesF_cons (l r:Bs) (h:(10:UInt8)∉l):linesF (l++10 :: r)=l :: linesF r:=by
 unfold linesF Lib.split Lib.count
 rw [count_at _ _ (by omega),count_at _ _ (by omega),List.count_append,List.count_eq_zero.2 h,List.count_cons_self,Nat.zero_add]
 show (if _ then _ else _)=_
 rw [index_at l r h,if_neg (by simp)]
 have:(l++10 :: r).drop (Int.toNat (l.length:Int)+([10]:Bs).length)=r:=by simp [List.drop_append]
 rw [this]
 simp
def flatL (ls:List Bs):Bs:=ls.flatMap fun l=>l++[10]
theorem linesF_flat:∀ ls:List Bs,(∀ l∈ls,(10:UInt8)∉l)->linesF (flatL ls)=ls++[[]]
 | [],_=>linesF_no [] (by simp)
 | l :: ls,h=>by
  have e:flatL (l :: ls)=l++10 :: flatL ls:=by simp [flatL]
  rw [e,linesF_cons l _ (h l (by simp)),linesF_flat ls (fun x hx=>h x (by simp [hx]))]
  rfl
inductive Gone where
 | ok (s:PS)
 | err (e l:Int)
def goL:PS->Nat->List Bs->Gone
 | s,_,[]=>.ok s
 | s,n,l :: r=>if (s.add l ((n:Int)+1)).2≠0 then .err (s.add l ((n:Int)+1)).2 ((n:Int)+1) else goL (s.add l ((n:Int)+1)).1 (n+1) r
theorem goL_cons (s:PS) (n:Nat) (l:Bs) (r:List Bs):goL s n (l :: r)=if (s.add l ((n:Int)+1)).2≠0 then .err (s.add l ((n:Int)+1)).2 ((n:Int)+1) else goL (s.add l ((n:Int)+1)).1 (n+1) r:=rfl
theorem goL_append:∀ (a b:List Bs) (s:PS) (n:Nat),goL s n (a++b)=match goL s n a with | .ok s'=>goL s' (n+a.length) b | .err e l=>.err e l
 | [],b,s,n=>rfl
 | x :: a,b,s,n=>by
  rw [List.cons_append,goL_cons,goL_cons]
  by_cases h:(s.add x ((n:Int)+1)).2≠0
  ·rw [if_pos h,if_pos h]
  ·rw [if_neg h,if_neg h,goL_append a b]
   have:n+1+a.length=n+(x :: a).length:=by simp;omega
   rw [this]
theorem goL_first (ls:List Bs):∀ (m k:Nat),ls.length=k+m->goL (upTo ls k) k (ls.drop k)=match firstErr ls m k with|some (j,e)=>.err e ((j:Int)+1)|none=>.ok (upTo ls ls.length)
 | 0,k,h=>by
  rw [List.drop_eq_nil_of_le (by omega)]
  have:k=ls.length:=by omega
  subst this
  rfl
 | m+1,k,h=>by
  have hk:k<ls.length:=by omega
  rw [List.drop_eq_getElem_cons hk]
  have e:ls[k]=ls.getD k []:=by simp [List.getD,hk]
  unfold firstErr goL
  rw [e]
  by_cases h1:errAt ls k≠0
  ·have h2:((upTo ls k).add (ls.getD k []) ((k:Int)+1)).2≠0:=h1
   rw [if_pos h1,if_pos h2]
   rfl
  ·have h2:¬ ((upTo ls k).add (ls.getD k []) ((k:Int)+1)).2≠0:=h1
   rw [if_neg h1,if_neg h2]
   exact goL_first ls m (k+1) (by omega)
theorem parseF_go (text:Bs) (h:text.length≤800) (ls:List Bs):parseF text ls=match goL startP 0 ls with | .err e l=>(none,e,l) | .ok s=>if s.complete 0 then (some s,0,0) else (none,2,(ls.length:Int)+1):=by
 have:=goL_first ls ls.length 0 (by omega)
 simp only [List.drop_zero] at this
 have e:upTo ls 0=startP:=rfl
 rw [e] at this
 unfold parseF
 rw [if_neg (by omega),this]
 cases firstErr ls ls.length 0 with
 | none=>rfl
 | some p=>rfl
theorem goL_ok (ls:List Bs) (s:PS) (h:goL startP 0 ls=.ok s):s=upTo ls ls.length:=by
 have:=goL_first ls ls.length 0 (by omega)
 simp only [List.drop_zero] at this
 have e:upTo ls 0=startP:=rfl
 rw [e,h] at this
 cases hf:firstErr ls ls.length 0 with
 | none=>rw [hf] at this;injection this
 | some p=>rw [hf] at this;cases this
theorem trimB_sp (n:Nat) (b:Bs):trimB (List.replicate n 32++b)=trimB b:=by
 induction n with
 | zero=>rfl
 | succ n ih =>
  have:List.replicate (n+1) (32:UInt8)++b=32 :: (List.replicate n 32++b):=by simp [List.replicate_succ]
  rw [this]
  have e:trimB (32 :: (List.replicate n 32++b))=trimB (List.replicate n 32++b):=by unfold trimB Lib.trimLeftB;simp
  rw [e];exact ih
theorem addP_blank (s:PS) (n:Nat) (no:Int):s.add (List.replicate n 32) no=(s,0):=by
 have h:=trimB_sp n []
 simp only [List.append_nil] at h
 have h0:trimB []=[]:=rfl
 unfold PS.add
 rw [h,h0,if_pos rfl]
def aboveFor (k:Int):Int:=if k=12 then 11 else if k=14 then 13 else 7
def clsB (above k:Int):Bool:=if above=11 then k == 12 else if above=13 then k == 14 else k != 12&&k != 14
theorem readLineF_cls (b:Bs) (above k:Int) (h:clsB above k=true):readLineF b above=readLineF b (aboveFor k):=by
 have key:∀ σ,lineF above σ=lineF (aboveFor k) σ:=by
  intro σ
  unfold clsB at h
  split at h
  ·rename_i h1;subst h1
   have:k=12:=by simpa using h
   subst this;rfl
  ·rename_i h1
   split at h
   ·rename_i h2;subst h2
    have:k=14:=by simpa using h
    subst this;rfl
   ·rename_i h2
    simp at h
    have:aboveFor k=7:=by unfold aboveFor;rw [if_neg h.1,if_neg h.2]
    rw [this]
    unfold lineF
    rw [if_neg h1,if_neg h2]
    rfl
 unfold readLineF
 rw [key]
def headOk (b:Bs):Bool:=match b with|[]=>false|c :: _=>c != 32
theorem trimB_head (b:Bs) (h:headOk b=true):trimB b=b∧b≠[]:=by
 cases b with
 | nil=>cases h
 | cons c b =>
  have hc:c≠32:=by simpa [headOk] using h
  refine⟨?_,by simp⟩
  unfold trimB Lib.trimLeftB
  simp [hc]
def mayB (s:PS) (d:Nat) (k:Int):Bool:=decide (d≤10)&&s.fits d&&clsB (s.at (s.above d)).kind k
theorem add_real (s:PS) (d:Nat) (b:Bs) (k:Int) (no:Int) (hb:headOk b=true) (hm:mayB s d k=true) :
  s.add (List.replicate (2 * d) 32++b) no=if (readLineF b (aboveFor k)).2≠0 then (s,(readLineF b (aboveFor k)).2) else (s.put d (readLineF b (aboveFor k)).1 no,0):=by
 obtain⟨h1,h2⟩:=trimB_head b hb
 simp only [mayB,Bool.and_eq_true,decide_eq_true_eq] at hm
 obtain⟨⟨hd,hf⟩,hc⟩:=hm
 have e:trimB (List.replicate (2 * d) 32++b)=b:=(trimB_sp _ _).trans h1
 have el:(List.replicate (2 * d) (32:UInt8)++b).length - b.length=2 * d:=by simp
 have e2:2 * d / 2=d:=by omega
 unfold PS.add
 rw [e,if_neg h2,el,e2,if_neg (by omega),if_neg (by rw [hf];simp)]
 dsimp only
 rw [readLineF_cls b _ k hc]
def PE.er:PE->PE
 | .nil=>.nil
 | .num _=>.num 0
 | .var n d=>.var n d
 | .pair op a b=>.pair op a.er b.er
def PNode.er (n:PNode):PNode:={ n with line:=1,expr:=n.expr.er }
def LP.er (p:LP):LP:={ p with expr:=p.expr.er }
def PS.er (s:PS):PS:=⟨s.nodes.map PNode.er,s.chain⟩
theorem er_at (ns:List PNode) (i:Nat) (h:i<ns.length):(ns.map PNode.er).getD i default=(ns.getD i default).er:=by
 simp [List.getD,h]
theorem er_kids (ns:List PNode) (i:Nat):((ns.map PNode.er).getD i default).kids=(ns.getD i default).kids:=by
 rcases Nat.lt_or_ge i ns.length with h|h
 ·rw [er_at ns i h];rfl
 ·rw [getD_ge _ _ _ h,getD_ge _ _ _ (by simpa using h)]
theorem er_kind (ns:List PNode) (i:Nat):((ns.map PNode.er).getD i default).kind=(ns.getD i default).kind:=by
 rcases Nat.lt_or_ge i ns.length with h|h
 ·rw [er_at ns i h];rfl
 ·rw [getD_ge _ _ _ h,getD_ge _ _ _ (by simpa using h)]
theorem er_atk (s:PS) (i:Nat):(s.er.at i).kids=(s.at i).kids∧(s.er.at i).kind=(s.at i).kind:=⟨er_kids s.nodes i,er_kind s.nodes i⟩
theorem er_full (s:PS) (i:Nat):s.er.full i=s.full i:=by
 unfold PS.full;rw [(er_atk s i).1,(er_atk s i).2]
theorem er_complete (s:PS) (d:Nat):s.er.complete d=s.complete d:=by
 unfold PS.complete
 show (s.chain.drop d).all s.er.full=_
 congr 1
 funext i
 exact er_full s i
theorem er_fits (s:PS) (d:Nat):s.er.fits d=s.fits d:=by
 unfold PS.fits
 rw [er_complete]
 have:s.er.above d=s.above d:=rfl
 rw [this,(er_atk s _).1,(er_atk s _).2]
 rfl
theorem er_may (s:PS) (d:Nat) (k:Int):mayB s.er d k=mayB s d k:=by
 unfold mayB
 rw [er_fits]
 have:s.er.above d=s.above d:=rfl
 rw [this,(er_atk s _).2]
theorem er_put (s:PS) (d:Nat) (p:LP) (no:Int) (h:s.above d<s.nodes.length):(s.put d p no).er=s.er.put d p.er 1:=by
 have e1:s.er.above d=s.above d:=rfl
 have e2:s.er.at (s.above d)=(s.at (s.above d)).er:=er_at s.nodes _ h
 have e3:s.er.nodes.length=s.nodes.length:=by simp [PS.er]
 have e4:s.er.chain=s.chain:=rfl
 have e5:s.er.nodes=s.nodes.map PNode.er:=rfl
 unfold PS.put
 rw [e1,e2,e3,e4,e5]
 unfold PS.er
 simp only [List.map_append,List.map_set]
 rfl
def runE:PS->List (Nat×LP)->Option PS
 | s,[]=>some s
 | s,x :: r=>if mayB s x.1 x.2.kind then runE (s.put x.1 x.2 1) r else none
def Numd (s:PS):Prop:=0<s.nodes.length∧∀ j,0<j->j<s.nodes.length->(s.at j).line≠0
theorem Numd.put {s:PS} (h:Numd s) (d:Nat) (p:LP) (no:Int) (hd:s.above d<s.nodes.length) (hn:no≠0):Numd (s.put d p no):=by
 refine⟨by simp [PS.put],?_⟩
 intro j h0 hj
 rw [put_at s d p no hd j]
 have hl:(s.put d p no).nodes.length=s.nodes.length+1:=by simp [PS.put]
 rw [hl] at hj
 split
 ·rename_i e;exact h.2 j h0 (by omega)
 ·split
  ·exact hn
  ·exact h.2 j h0 (by omega)
structure Item where
 d:Nat
 b:Bs
 p:LP
def wrB (bad i:Nat):Bs:=if i=bad then [32,33,32,59] else []
def tlB (b i:Nat):Bs:=if 0<b∧i % 2=1 then [32] else []
def lay (bad put b:Nat):Nat->List Item->List Bs
 | _,[]=>[]
 | i,x :: r=>(if i=put then [List.replicate b 32] else [])++(List.replicate (2 * x.d) 32++(x.b++wrB bad i++tlB b i)) :: lay bad put b (i+1) r
structure Item.Ok (x:Item):Prop where
 head:headOk x.b=true
 fine:readLineF x.b (aboveFor x.p.kind)=(x.p,0)∧readLineF (x.b++[32]) (aboveFor x.p.kind)=(x.p,0)
 bad:(readLineF (x.b++[32,33,32,59]) (aboveFor x.p.kind)).2=2∧(readLineF (x.b++[32,33,32,59]++[32]) (aboveFor x.p.kind)).2=2
 nl:(10:UInt8)∉x.b
theorem headOk_append (b c:Bs) (h:headOk b=true):headOk (b++c)=true:=by
 cases b with
 | nil=>cases h
 | cons x b=>exact h
theorem Item.Ok.reads {x:Item} (h:x.Ok) (bad b i:Nat) (hi:i≠bad):readLineF (x.b++wrB bad i++tlB b i) (aboveFor x.p.kind)=(x.p,0):=by
 unfold wrB tlB
 rw [if_neg hi,List.append_nil]
 split
 ·exact h.fine.2
 ·rw [List.append_nil];exact h.fine.1
theorem Item.Ok.fails {x:Item} (h:x.Ok) (b i:Nat):(readLineF (x.b++wrB i i++tlB b i) (aboveFor x.p.kind)).2=2:=by
 unfold wrB tlB
 rw [if_pos rfl]
 split
 ·exact h.bad.2
 ·rw [List.append_nil];exact h.bad.1
theorem may_above (s:PS) (d:Nat) (k:Int) (h:mayB s d k=true) (hc:∀ i∈s.chain,i<s.nodes.length):s.above d<s.nodes.length:=by
 simp only [mayB,Bool.and_eq_true,decide_eq_true_eq] at h
 have hd:=PS.fits_lt h.1.2
 unfold PS.above
 rw [getD_lt _ _ _ hd]
 exact hc _ (List.getElem_mem hd)
theorem goL_blank (s:PS) (n b:Nat) (r:List Bs):goL s n (List.replicate b 32 :: r)=goL s (n+1) r:=by
 show (if _ then _ else _)=_
 rw [addP_blank,if_neg (by simp)]
theorem goL_real (s:PS) (n d:Nat) (b:Bs) (p:LP) (r:List Bs) (hb:headOk b=true) (hm:mayB s d p.kind=true) (hr:readLineF b (aboveFor p.kind)=(p,0)) :
  goL s n ((List.replicate (2 * d) 32++b) :: r)=goL (s.put d p ((n:Int)+1)) (n+1) r:=by
 show (if _ then _ else _)=_
 rw [add_real s d b p.kind _ hb hm,hr,if_neg (by simp),if_neg (by simp)]
theorem goL_wrong (s:PS) (n d:Nat) (b:Bs) (k:Int) (r:List Bs) (hb:headOk b=true) (hm:mayB s d k=true) (hr:(readLineF b (aboveFor k)).2=2) :
  goL s n ((List.replicate (2 * d) 32++b) :: r)=.err 2 ((n:Int)+1):=by
 show (if _ then _ else _)=_
 rw [add_real s d b k _ hb hm,hr,if_pos (show (2:Int)≠0 by decide),if_pos (show (2:Int)≠0 by decide)]
theorem go_lay (bad put b:Nat):∀ (xs:List Item) (i:Nat) (s:PS) (n:Nat) (t:PS),(∀ x∈xs,x.Ok)->s.Ok->Numd s->runE s.er (xs.map fun x=>(x.d,x.p.er))=some t->(bad<i∨i+xs.length≤bad) ->
  ∃ s',goL s n (lay bad put b i xs)=.ok s'∧s'.er=t∧Numd s'
 | [],i,s,n,t,_,_,hn,hr,_=>⟨s,rfl,by injection hr,hn⟩
 | x :: xs,i,s,n,t,hx,hs,hn,hr,hb=>by
  have hxo:=hx x (by simp)
  have hlen:(x :: xs).length=xs.length+1:=rfl
  have hr':(if mayB s.er x.d x.p.er.kind then runE (s.er.put x.d x.p.er 1) (xs.map fun x=>(x.d,x.p.er)) else none)=some t:=hr
  have hk:x.p.er.kind=x.p.kind:=rfl
  rw [er_may,hk] at hr'
  by_cases hm:mayB s x.d x.p.kind=true
  ·rw [if_pos hm] at hr'
   have ha:=may_above s x.d _ hm hs.chain
   have hd:x.d≤10:=by
    simp only [mayB,Bool.and_eq_true,decide_eq_true_eq] at hm;exact hm.1.1
   have hrd:=hxo.reads bad b i (by omega)
   have hh:headOk (x.b++wrB bad i++tlB b i)=true:=headOk_append _ _ (headOk_append _ _ hxo.head)
   have step:∀ m:Nat,∃ s',goL s m ((List.replicate (2 * x.d) 32++(x.b++wrB bad i++tlB b i)) :: lay bad put b (i+1) xs)=.ok s'∧s'.er=t∧Numd s':=by
    intro m
    rw [goL_real s m x.d _ x.p _ hh hm hrd]
    have hr2:=hr'
    rw [<-er_put s x.d x.p ((m:Int)+1) ha] at hr2
    exact go_lay bad put b xs (i+1) _ (m+1) t (fun y hy=>hx y (by simp [hy])) (hs.put x.d hd _ _) (hn.put x.d x.p _ ha (by omega)) hr2 (by omega)
   unfold lay
   split
   ·rw [List.singleton_append,goL_blank]
    exact step _
   ·exact step _
  ·rw [if_neg hm] at hr'
   cases hr'
theorem go_wrong (bad put b:Nat):∀ (xs:List Item) (i:Nat) (s:PS) (n:Nat) (t:PS),(∀ x∈xs,x.Ok)->s.Ok->Numd s->runE s.er (xs.map fun x=>(x.d,x.p.er))=some t->i≤bad->bad<i+xs.length ->
  goL s n (lay bad put b i xs)=.err 2 ((n:Int)+((bad:Int) - (i:Int))+1+(if i≤put∧put≤bad then 1 else 0))
 | [],i,s,n,t,_,_,hn,hr,h1,h2=>by simp at h2;omega
 | x :: xs,i,s,n,t,hx,hs,hn,hr,h1,h2=>by
  have hxo:=hx x (by simp)
  have hlen:(x :: xs).length=xs.length+1:=rfl
  have hr':(if mayB s.er x.d x.p.er.kind then runE (s.er.put x.d x.p.er 1) (xs.map fun x=>(x.d,x.p.er)) else none)=some t:=hr
  have hk:x.p.er.kind=x.p.kind:=rfl
  rw [er_may,hk] at hr'
  by_cases hm:mayB s x.d x.p.kind=true
  ·rw [if_pos hm] at hr'
   have ha:=may_above s x.d _ hm hs.chain
   have hd:x.d≤10:=by
    simp only [mayB,Bool.and_eq_true,decide_eq_true_eq] at hm;exact hm.1.1
   have hh:headOk (x.b++wrB bad i++tlB b i)=true:=headOk_append _ _ (headOk_append _ _ hxo.head)
   by_cases hi:i=bad
   ·subst hi
    have step:∀ m:Nat,goL s m ((List.replicate (2 * x.d) 32++(x.b++wrB i i++tlB b i)) :: lay i put b (i+1) xs)=.err 2 ((m:Int)+1):=fun m=>goL_wrong s m x.d _ x.p.kind _ hh hm (hxo.fails b i)
    unfold lay
    by_cases hp:i=put
    ·rw [if_pos hp]
     rw [List.singleton_append,goL_blank,step,if_pos (by omega)]
     congr 1
     push_cast
     omega
    ·rw [if_neg hp]
     rw [List.nil_append,step,if_neg (by omega)]
     congr 1
     omega
   ·have hrd:=hxo.reads bad b i hi
    have step:∀ m:Nat,goL s m ((List.replicate (2 * x.d) 32++(x.b++wrB bad i++tlB b i)) :: lay bad put b (i+1) xs)=.err 2 (((m+1:Nat):Int)+((bad:Int) - ((i+1:Nat):Int))+1+(if i+1≤put∧put≤bad then 1 else 0)):=by
     intro m
     rw [goL_real s m x.d _ x.p _ hh hm hrd]
     have hr2:=hr'
     rw [<-er_put s x.d x.p ((m:Int)+1) ha] at hr2
     exact go_wrong bad put b xs (i+1) _ (m+1) t (fun y hy=>hx y (by simp [hy])) (hs.put x.d hd _ _) (hn.put x.d x.p _ ha (by omega)) hr2 (by omega) (by omega)
    unfold lay
    by_cases hp:i=put
    ·rw [if_pos hp]
     rw [List.singleton_append,goL_blank,step,if_neg (by omega),if_pos (by omega)]
     congr 1
     push_cast
     omega
    ·rw [if_neg hp]
     rw [List.nil_append,step]
     congr 1
     by_cases hq:i≤put∧put≤bad
     ·rw [if_pos (by omega),if_pos hq];push_cast;omega
     ·rw [if_neg (by omega),if_neg hq];push_cast;omega
  ·rw [if_neg hm] at hr'
   cases hr'
end Go.Proofs.YtnhidaamfnjdjaaGreatDoor
namespace Go.Proofs.YtnhidaamfnjdjaaGreatDoor
open Go.RowKit Go.Maps
theorem parseF_done_iff (text:Bs) (ls:List Bs) (s:PS) (h:(parseF text ls).1=some s):text.length≤800∧s=upTo ls ls.length∧s.complete 0=true:=by
 unfold parseF at h
 split at h
 ·cases h
 ·rename_i h1
  split at h
  ·cases h
  ·split at h
   ·rename_i h2
    injection h with h
    subst h
    exact⟨by omega,rfl,h2⟩
   ·cases h
theorem Walked.up {s:PS} {E par:Nat->Nat} (h:Walked s E par):Up s.nodes:=by
 intro i k hk
 rcases Nat.lt_or_ge i s.nodes.length with x|x
 ·have h1:=(h.row i x).mem k hk
  have h2:=h.top i x
  omega
 ·rw [getD_ge _ _ _ x] at hk;simp [default] at hk
theorem root_in {s:PS} {E par:Nat->Nat} (h:Walked s E par) (hp:0<(s.at 0).kids.length):0<rootOf s∧rootOf s<s.nodes.length:=by
 have hm:rootOf s∈(s.at 0).kids:=by
  unfold rootOf;rw [getD_lt _ _ _ hp];exact List.getElem_mem hp
 exact h.up 0 _ hm
theorem Good_any (text:Bs):Good text:=by
 intro s hs
 obtain⟨hl,rfl,hc⟩:=parseF_done_iff _ _ _ hs
 have hlen:(upTo (linesF text) (linesF text).length).nodes.length≤802:=by
  have h1:=upTo_len (linesF text) (linesF text).length
  have h2:=linesF_len text
  omega
 have hr:=(root_lt _ _ hc).1
 have hok:=upTo_ok (linesF text) (linesF text).length
 have hin:=upTo_in (linesF text) (linesF text).length
 obtain⟨E,par,hw⟩:=upTo_walked (linesF text) (linesF text).length
 generalize upTo (linesF text) (linesF text).length=s at *
 have hroot:=root_in hw hr
 refine⟨hw.up,hroot.2,by omega,?_,?_⟩
 ·intro i
  rcases Nat.lt_or_ge i s.nodes.length with x|x
  ·rw [getD_lt _ _ _ x]
   have:=hok.few _ (List.getElem_mem x)
   omega
  ·rw [getD_ge _ _ _ x];simp [default]
 ·intro i
  have hE:=hw.top _ hroot.2
  have hn:∀ i,NIn (s.nodes.getD i default):=by
   intro i
   rcases Nat.lt_or_ge i s.nodes.length with x|x
   ·rw [getD_lt _ _ _ x];exact hin _ (List.getElem_mem x)
   ·rw [getD_ge _ _ _ x];exact NIn.dflt
  have g:=nameF_in s.nodes E hw.row hw.top s.nodes.length (startR,s.nodes) (rootOf s) (SameShape.refl _) hroot.2 ⟨hn,by
   intro d hd
   simp only [startR,List.mem_cons,List.not_mem_nil,or_false] at hd
   rcases hd with rfl|rfl
   ·exact⟨by decide,by decide⟩
   ·exact⟨by decide,by decide⟩,by show (0:Int)≤3;decide⟩ (by show (3:Int)+_≤2000;omega)
  exact ownU_in _ (g.1.nodes i)
end Go.Proofs.YtnhidaamfnjdjaaGreatDoor
