import Derived.Test.YtnhidaamfnjdjaaGreatDoorZBlkD0
import Derived.Test.YtnhidaamfnjdjaaGreatDoorZBlkD2
import Derived.Test.YtnhidaamfnjdjaaGreatDoorZTnC
import Derived.Test.YtnhidaamfnjdjaaGreatDoorZItmA
namespace Go.Proofs.YtnhidaamfnjdjaaGreatDoor
open Go.RowKit
theorem allS_mem:∀ (n:Nat) (pre cs:List Nat),allS n pre=true->cs.length≤n->(∀ c∈cs,c<4)->okShape (pre++cs)=true
 | 0,pre,cs,h,hl,_=>by
  cases cs with
  | nil=>rw [List.append_nil];exact h
  | cons c cs=>simp at hl
 | n+1,pre,cs,h,hl,hc=>by
  simp only [allS,Bool.and_eq_true] at h
  obtain⟨⟨⟨⟨h0,h1⟩,h2⟩,h3⟩,h4⟩:=h
  cases cs with
  | nil=>rw [List.append_nil];exact h0
  | cons c cs =>
   have e:pre++c :: cs=(pre++[c])++cs:=by simp
   rw [e]
   have hl':cs.length≤n:=by simp at hl;omega
   have hc':∀ x∈cs,x<4:=fun x hx=>hc x (by simp [hx])
   have hcc:=hc c (by simp)
   have:c=0∨c=1∨c=2∨c=3:=by omega
   rcases this with rfl|rfl|rfl|rfl
   ·exact allS_mem n _ cs h1 hl' hc'
   ·exact allS_mem n _ cs h2 hl' hc'
   ·exact allS_mem n _ cs h3 hl' hc'
   ·exact allS_mem n _ cs h4 hl' hc'
theorem okShape_nil:okShape []=true:=by decide +kernel
theorem allS4_of (c:Nat) (h:okShape [c]=true) (h0:allS 3 [c,0]=true) (h1:allS 3 [c,1]=true) (h2:allS 3 [c,2]=true) (h3:allS 3 [c,3]=true):allS 4 [c]=true:=by
 show (okShape [c]&&allS 3 [c,0]&&allS 3 [c,1]&&allS 3 [c,2]&&allS 3 [c,3])=true
 rw [h,h0,h1,h2,h3]
 rfl
theorem shape_ok (cs:List Nat) (hl:cs.length≤5) (hc:∀ c∈cs,c<4):okShape cs=true:=by
 cases cs with
 | nil=>exact okShape_nil
 | cons c cs =>
  have hl':cs.length≤4:=by simp at hl;omega
  have hc':∀ x∈cs,x<4:=fun x hx=>hc x (by simp [hx])
  have hcc:=hc c (by simp)
  have:c=0∨c=1∨c=2∨c=3:=by omega
  rcases this with rfl|rfl|rfl|rfl
  ·exact allS_mem 4 [0] cs (allS4_of 0 okS_0 allS_00 allS_01 allS_02 allS_03) hl' hc'
  ·exact allS_mem 4 [1] cs (allS4_of 1 okS_1 allS_10 allS_11 allS_12 allS_13) hl' hc'
  ·exact allS_mem 4 [2] cs (allS4_of 2 okS_2 allS_20 allS_21 allS_22 allS_23) hl' hc'
  ·exact allS_mem 4 [3] cs (allS4_of 3 okS_3 allS_30 allS_31 allS_32 allS_33) hl' hc'
theorem bit_shape (c k:Nat):shE (bitI c k)=shE (bitI c 0):=by
 unfold bitI
 split
 ·rfl
 ·split
  ·rfl
  ·split <;> rfl
theorem bag_shape (rs:List (Nat×Nat)):shE (bagI rs)=shE headI++(rs.map (·.1)).flatMap (fun c=>shE (bitI c 0))++shE tailI:=by
 have:∀ rs:List (Nat×Nat),shE (rs.flatMap fun r=>bitI r.1 r.2)=(rs.map (·.1)).flatMap (fun c=>shE (bitI c 0)):=by
  intro rs
  induction rs with
  | nil=>rfl
  | cons r rs ih =>
   rw [List.flatMap_cons,List.map_cons,List.flatMap_cons,<-ih,<-bit_shape r.1 r.2]
   exact List.map_append
 rw [<-this]
 unfold bagI shE
 rw [List.map_append,List.map_append]
structure RsOk (rs:List (Nat×Nat)):Prop where
 len:rs.length≤5
 each:∀ r∈rs,r.1<4∧r.2<50
theorem bag_items (rs:List (Nat×Nat)) (h:RsOk rs):∀ x∈bagI rs,x.Ok:=by
 intro x hx
 have hf:=List.all_eq_true.1 fixed_ok
 unfold bagI at hx
 rw [List.mem_append,List.mem_append] at hx
 rcases hx with (hx|hx)|hx
 ·exact okI_ok x (hf x (List.mem_append_left _ hx))
 ·obtain⟨r,hr,hxr⟩:=List.mem_flatMap.1 hx
  have:=h.each r hr
  exact okI_ok x (List.all_eq_true.1 (bits_ok r.1 this.1 r.2 this.2) x hxr)
 ·exact okI_ok x (hf x (List.mem_append_right _ hx))
theorem bag_check (rs:List (Nat×Nat)) (h:RsOk rs) (bad put b:Nat) (hlen:(flatL (lay bad put b 0 (bagI rs))).length≤800) :
  checkF (flatL (lay bad put b 0 (bagI rs)))=if bad<(bagI rs).length then (2,(bad:Int)+1+(if put≤bad then 1 else 0)) else (0,0):=by
 have hs:=shape_ok (rs.map (·.1)) (by rw [List.length_map];exact h.len) (by
  intro c hc
  obtain⟨r,hr,rfl⟩:=List.mem_map.1 hc
  exact (h.each r hr).1)
 unfold okShape at hs
 rw [<-bag_shape rs] at hs
 cases hr:runE startP.er (shE (bagI rs)) with
 | none=>rw [hr] at hs;cases hs
 | some t =>
  rw [hr] at hs
  simp only [Bool.and_eq_true] at hs
  exact lay_check (bagI rs) (bag_items rs h) t hr hs.1 hs.2 bad put b hlen
end Go.Proofs.YtnhidaamfnjdjaaGreatDoor
namespace Go.Proofs.YtnhidaamfnjdjaaGreatDoor
open Go.RowKit Go.Maps
def ExQ (kind:Int) (e:PE):Prop:=noDiv e=true∧(kind=6->∃ v,e=.num v∧v≤1000000)∧(kind=10->e=.num 1)
theorem each_q (line:Int):∀ (e:PE) (r:RV),noDiv (eachF line r e).2=noDiv e∧∀ v,e=.num v->(eachF line r e).2=.num v
 | .nil,_=>⟨rfl,fun v h=>by cases h⟩
 | .num _,_=>⟨rfl,fun v h=>h⟩
 | .var _ _,_=>⟨rfl,fun v h=>by cases h⟩
 | .pair op a b,r=>by
  have h1:=each_q line a r
  have h2:=each_q line b (eachF line r a).1
  refine⟨?_,fun v h=>by cases h⟩
  show (_&&noDiv _&&noDiv _)=(_&&noDiv _&&noDiv _)
  rw [h1.1,h2.1]
def SameQ (ns ns':List PNode):Prop:=∀ i,(ns'.getD i default).kind=(ns.getD i default).kind∧noDiv (ns'.getD i default).expr=noDiv (ns.getD i default).expr∧∀ v,(ns.getD i default).expr=.num v->(ns'.getD i default).expr=.num v
theorem SameQ.refl (ns:List PNode):SameQ ns ns:=fun _=>⟨rfl,rfl,fun _ h=>h⟩
theorem SameQ.trans {a b c:List PNode} (h:SameQ a b) (k:SameQ b c):SameQ a c:=fun i=>⟨(k i).1.trans (h i).1,(k i).2.1.trans (h i).2.1,fun v e=>(k i).2.2 v ((h i).2.2 v e)⟩
theorem SameQ.set (ns:List PNode) (i:Nat) (n:PNode) (h:n.kind=(ns.getD i default).kind∧noDiv n.expr=noDiv (ns.getD i default).expr∧∀ v,(ns.getD i default).expr=.num v->n.expr=.num v):SameQ ns (ns.set i n):=by
 intro j
 by_cases e:j=i
 ·subst e
  by_cases hl:j<ns.length
  ·rw [List.getD,List.getElem?_set,if_pos rfl,if_pos hl];exact h
  ·rw [List.set_eq_of_length_le (by omega)]
   exact⟨rfl,rfl,fun _ h=>h⟩
 ·have:(ns.set i n).getD j default=ns.getD j default:=by rw [List.getD,List.getElem?_set,if_neg (fun x=>e x.symm)];rfl
  rw [this]
  exact⟨rfl,rfl,fun _ h=>h⟩
theorem nameF_q:∀ (f:Nat) (st:RV×List PNode) (i:Nat),SameQ st.2 (nameF f st i).2
 | 0,st,_=>SameQ.refl _
 | f+1,st,i=>by
  have ih:∀ (l:List Nat) (x:RV×List PNode),SameQ x.2 (l.foldl (nameF f) x).2 :=
   fun l x=>fold_keep (fun x y:RV×List PNode=>SameQ x.2 y.2) (fun x=>SameQ.refl _) (fun x y z h k=>h.trans k) (nameF f) (fun x k=>nameF_q f x k) l x
  unfold nameF
  dsimp only
  split
  ·exact (SameQ.set st.2 i { st.2.getD i default with nd:=st.1.next } ⟨rfl,rfl,fun _ h=>h⟩).trans (ih _ _)
  ·have hh:=headOf_same st.1 (st.2.getD i default)
   refine (SameQ.set st.2 i (exprOf (headOf st.1 (st.2.getD i default)).1 (headOf st.1 (st.2.getD i default)).2).2 ?_).trans (ih _ (_,_))
   have:=each_q (headOf st.1 (st.2.getD i default)).2.line (headOf st.1 (st.2.getD i default)).2.expr (headOf st.1 (st.2.getD i default)).1
   rw [hh.2.2.1] at this
   refine⟨?_,?_,?_⟩
   ·show (headOf st.1 (st.2.getD i default)).2.kind=_
    exact hh.2.1
   ·show noDiv (eachF _ _ _).2=_
    rw [hh.2.2.1]
    exact this.1
   ·intro v hv
    show (eachF _ _ _).2=_
    rw [hh.2.2.1]
    exact this.2 v hv
theorem named_q (s:PS) (h:∀ i,ExQ (s.at i).kind (s.at i).expr) (i:Nat):ExQ ((namedF s).2.getD i default).kind ((namedF s).2.getD i default).expr:=by
 have q:=nameF_q s.nodes.length (startR,s.nodes) (rootOf s) i
 have hi:=h i
 have e:(namedF s)=nameF s.nodes.length (startR,s.nodes) (rootOf s):=rfl
 rw [e]
 have hs:s.at i=s.nodes.getD i default:=rfl
 rw [hs] at hi
 obtain⟨q1,q2,q3⟩:=q
 have q1:((nameF s.nodes.length (startR,s.nodes) (rootOf s)).2.getD i default).kind=(s.nodes.getD i default).kind:=q1
 refine⟨q2.trans hi.1,fun hk=>?_,fun hk=>?_⟩
 ·rw [q1] at hk
  obtain⟨v,hv,hle⟩:=hi.2.1 hk
  exact⟨v,q3 v hv,hle⟩
 ·rw [q1] at hk
  exact q3 1 (hi.2.2 hk)
theorem exQ_dflt:ExQ (default:PNode).kind (default:PNode).expr:=⟨rfl,fun h=>(by cases h),fun h=>(by cases h)⟩
theorem runI_q:∀ (l:List (Nat×LP)) (s:PS) (n:Nat) (t:PS),(∀ i,ExQ (s.at i).kind (s.at i).expr)->(∀ x∈l,ExQ x.2.kind x.2.expr)->runI s n l=some t->∀ i,ExQ (t.at i).kind (t.at i).expr
 | [],s,n,t,h,_,hr=>by
  have hr:some s=some t:=hr
  injection hr with hr
  rw [<-hr]
  exact h
 | (d,p) :: l,s,n,t,h,hx,hr=>by
  have hr:(if mayB s d p.kind then runI (s.put d p ((n:Int)+1)) (n+1) l else none)=some t:=hr
  by_cases hm:mayB s d p.kind=true
  ·rw [if_pos hm] at hr
   refine runI_q l _ _ t (fun i=>?_) (fun x hx'=>hx x (by simp [hx'])) hr
   rcases Nat.lt_trichotomy i s.nodes.length with z|z|z
   ·rw [put_old s d p _ i z]
    split
    ·exact h (s.above d)
    ·exact h i
   ·rw [z,put_new]
    exact hx (d,p) (by simp)
   ·have:(s.put d p ((n:Int)+1)).at i=default:=by
     unfold PS.at
     exact getD_ge _ _ _ (by rw [put_len];omega)
    rw [this]
    exact exQ_dflt
  ·rw [if_neg hm] at hr;cases hr
theorem calm_of (s:PS) (h:∀ i,ExQ (s.at i).kind (s.at i).expr):CalmT (namedF s).2∧∀ i,((namedF s).2.getD i default).kind=10->((namedF s).2.getD i default).expr=.num 1 :=
 ⟨⟨fun i=>(named_q s h i).1,fun i hk=>(named_q s h i).2.1 hk⟩,fun i hk=>(named_q s h i).2.2 hk⟩
end Go.Proofs.YtnhidaamfnjdjaaGreatDoor
namespace Go.Proofs.YtnhidaamfnjdjaaGreatDoor
open Go.RowKit Go.Maps
def loopB (t:PS):Bool :=
 let r:=rootOf t
 let r1:=(t.at r).kids.getD 0 0
 let r2:=(t.at r1).kids.getD 0 0
 let k:=(t.at r2).kids.getD 1 0
 let w:=(t.at k).kids.getD 0 0
 ((t.at r).kind == 16)&&((t.at r).kids == [r1])&&((t.at r1).kind == 16)&&((t.at r1).kids == [r2])&&((t.at r2).kind == 8)&&Nat.blt 1 (t.at r2).kids.length&&((t.at k).kind == 15)&&((t.at k).kids == [w])&&((t.at w).kind == 10)
def okShape2 (cs:List Nat):Bool :=
 match runE startP.er (shE headI++cs.flatMap (fun c=>shE (bitI c 0))++shE tailI) with
 | some t=>loopB t
 | none=>false
def allS2:Nat->List Nat->Bool
 | 0,cs=>okShape2 cs
 | n+1,cs=>okShape2 cs&&allS2 n (cs++[0])&&allS2 n (cs++[1])&&allS2 n (cs++[2])&&allS2 n (cs++[3])
theorem allS2_mem:∀ (n:Nat) (pre cs:List Nat),allS2 n pre=true->cs.length≤n->(∀ c∈cs,c<4)->okShape2 (pre++cs)=true
 | 0,pre,cs,h,hl,_=>by
  have:cs=[]:=by cases cs <;> simp_all
  rw [this,List.append_nil];exact h
 | n+1,pre,[],h,_,_=>by
  rw [List.append_nil]
  unfold allS2 at h
  simp only [Bool.and_eq_true] at h
  exact h.1.1.1.1
 | n+1,pre,c :: cs,h,hl,hc=>by
  unfold allS2 at h
  simp only [Bool.and_eq_true] at h
  obtain⟨⟨⟨⟨_,h0⟩,h1⟩,h2⟩,h3⟩:=h
  have hc4:=hc c (by simp)
  have e:pre++c :: cs=(pre++[c])++cs:=by simp
  rw [e]
  have d:c=0∨c=1∨c=2∨c=3:=by omega
  have hl2:cs.length≤n:=by simpa using hl
  have hc2:∀ x∈cs,x<4:=fun x hx=>hc x (by simp [hx])
  rcases d with rfl|rfl|rfl|rfl
  ·exact allS2_mem n _ cs h0 hl2 hc2
  ·exact allS2_mem n _ cs h1 hl2 hc2
  ·exact allS2_mem n _ cs h2 hl2 hc2
  ·exact allS2_mem n _ cs h3 hl2 hc2
theorem run_er:∀ (l:List (Nat×LP)) (s:PS) (n:Nat) (t:PS),s.Ok->runE s.er (l.map fun x=>(x.1,x.2.er))=some t->∃ s',runI s n l=some s'∧s'.er=t
 | [],s,n,t,_,hr=>by
  have hr:some s.er=some t:=hr
  injection hr with hr
  exact⟨s,rfl,hr⟩
 | (d,p) :: l,s,n,t,hs,hr=>by
  have hr:(if mayB s.er d p.er.kind then runE (s.er.put d p.er 1) (l.map fun x=>(x.1,x.2.er)) else none)=some t:=hr
  have hk:p.er.kind=p.kind:=rfl
  rw [er_may,hk] at hr
  by_cases hm:mayB s d p.kind=true
  ·rw [if_pos hm] at hr
   have ha:=may_above s d _ hm hs.chain
   have hd:d≤10:=by
    simp only [mayB,Bool.and_eq_true,decide_eq_true_eq] at hm;exact hm.1.1
   rw [<-er_put s d p ((n:Int)+1) ha] at hr
   obtain⟨s',h1,h2⟩:=run_er l _ (n+1) t (hs.put d hd _ _) hr
   refine⟨s',?_,h2⟩
   show (if mayB s d p.kind then runI (s.put d p ((n:Int)+1)) (n+1) l else none)=_
   rw [if_pos hm]
   exact h1
  ·rw [if_neg hm] at hr;cases hr
def itB (rs:List (Nat×Nat)):List Itm:=(bagI rs).map fun x=>⟨x.d,x.b,x.p⟩
theorem named_shape (s:PS):∀ i,((namedF s).2.getD i default).kids=(s.at i).kids∧((namedF s).2.getD i default).kind=(s.at i).kind:=by
 intro i
 have h1:=(nameF_keep s.nodes.length (startR,s.nodes) (rootOf s)).1
 have h2:=nameF_q s.nodes.length (startR,s.nodes) (rootOf s) i
 exact⟨h1.kids i,h2.1⟩
theorem loop_of (s:PS) (hb:loopB s.er=true) (h10:∀ i,((namedF s).2.getD i default).kind=10->((namedF s).2.getD i default).expr=.num 1):∃ r1 r2 k w,LoopT (namedF s).2 (rootOf s) r1 r2 k w:=by
 have e1:rootOf s.er=rootOf s:=by unfold rootOf;rw [(er_atk s 0).1]
 have ek:∀ i,(s.er.at i).kids=((namedF s).2.getD i default).kids:=fun i=>by rw [(er_atk s i).1,(named_shape s i).1]
 have ed:∀ i,(s.er.at i).kind=((namedF s).2.getD i default).kind:=fun i=>by rw [(er_atk s i).2,(named_shape s i).2]
 unfold loopB at hb
 simp only [e1,ek,ed,Bool.and_eq_true,beq_iff_eq,Nat.blt_eq] at hb
 obtain⟨⟨⟨⟨⟨⟨⟨⟨a1,a2⟩,a3⟩,a4⟩,a5⟩,a6⟩,a7⟩,a8⟩,a9⟩:=hb
 refine⟨_,_,_,_,⟨a1,a2⟩,⟨a3,a4⟩,a5,?_,⟨a7,a8⟩,⟨a9,h10 _ a9⟩⟩
 rw [getD_lt _ 1 0 a6]
 exact List.getElem_mem _
theorem exQ_no {k:Int} {e:PE} (h6:(k == 6)=false) (h10:(k == 10)=false) (hd:noDiv e=true):ExQ k e :=
 ⟨hd,fun h=>absurd h (by simpa using h6),fun h=>absurd h (by simpa using h10)⟩
theorem exQ_bag (rs:List (Nat×Nat)) (h:RsOk rs):∀ x∈bagI rs,ExQ x.p.kind x.p.expr:=by
 intro x hx
 unfold bagI at hx
 rw [List.mem_append,List.mem_append] at hx
 rcases hx with (hx|hx)|hx
 ·simp only [headI,List.mem_cons,List.not_mem_nil,or_false] at hx
  rcases hx with rfl|rfl|rfl|rfl <;> exact exQ_no rfl rfl rfl
 ·obtain⟨r,hr,hxr⟩:=List.mem_flatMap.1 hx
  have hk:=(h.each r hr).2
  unfold bitI at hxr
  split at hxr
  ·simp only [List.mem_cons,List.not_mem_nil,or_false] at hxr
   subst hxr
   exact exQ_no rfl rfl rfl
  ·split at hxr
   ·simp only [List.mem_cons,List.not_mem_nil,or_false] at hxr
    subst hxr
    exact⟨rfl,fun _=>⟨_,rfl,by show ((r.2:Nat):Int)≤1000000;omega⟩,fun h=>absurd (show (6:Int)=10 from h) (by decide)⟩
   ·split at hxr
    ·simp only [List.mem_cons,List.not_mem_nil,or_false] at hxr
     rcases hxr with rfl|rfl|rfl|rfl|rfl <;> exact exQ_no rfl rfl rfl
    ·simp only [List.mem_cons,List.not_mem_nil,or_false] at hxr
     rcases hxr with rfl|rfl|rfl
     ·exact exQ_no rfl rfl rfl
     ·exact exQ_no rfl rfl rfl
     ·exact⟨rfl,fun _=>⟨_,rfl,by decide⟩,fun h=>absurd (show (6:Int)=10 from h) (by decide)⟩
 ·simp only [tailI,List.mem_cons,List.not_mem_nil,or_false] at hx
  rcases hx with rfl|rfl|rfl|rfl|rfl|rfl|rfl|rfl|rfl|rfl|rfl|rfl
  all_goals first
   | exact exQ_no rfl rfl rfl
   | exact⟨rfl,fun h=>absurd (show (10:Int)=6 from h) (by decide),fun _=>rfl⟩
end Go.Proofs.YtnhidaamfnjdjaaGreatDoor
