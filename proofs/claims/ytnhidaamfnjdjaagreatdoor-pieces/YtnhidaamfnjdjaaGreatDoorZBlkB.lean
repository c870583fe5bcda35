import Derived.Test.YtnhidaamfnjdjaaGreatDoorZGoodA
namespace Go.Proofs.YtnhidaamfnjdjaaGreatDoor
open Go.RowKit
structure RRel (r r':RV):Prop where
 hold:r'.hold=r.hold
 next:r'.next=r.next
 line:r.line=0↔r'.line=0
theorem RRel.refl (r:RV):RRel r r:=⟨rfl,rfl,Iff.rfl⟩
theorem resolveF_rel {r r':RV} (h:RRel r r') (t:Bs) (old must line line':Int) (h1:line≠0) (h2:line'≠0):RRel (resolveF r t old must line).1 (resolveF r' t old must line').1∧(resolveF r' t old must line').2=(resolveF r t old must line).2:=by
 unfold resolveF
 rw [h.hold]
 split
 ·exact⟨h,rfl⟩
 ·refine⟨⟨rfl,h.next,?_⟩,rfl⟩
  show (if r.line=0 then line else r.line)=0↔(if r'.line=0 then line' else r'.line)=0
  by_cases e:r.line=0
  ·rw [if_pos e,if_pos (h.line.1 e)];exact⟨fun x=>absurd x h1,fun x=>absurd x h2⟩
  ·have e':¬ r'.line=0:=fun x=>e (h.line.2 x)
   rw [if_neg e,if_neg e'];exact h.line
theorem eachF_rel (line line':Int) (h1:line≠0) (h2:line'≠0):∀ (e:PE) (r r':RV),RRel r r'->RRel (eachF line r e).1 (eachF line' r' e.er).1∧(eachF line' r' e.er).2=(eachF line r e).2.er
 | .nil,r,r',h=>⟨h,rfl⟩
 | .num _,r,r',h=>⟨h,rfl⟩
 | .var n d,r,r',h=>by
  have k:=resolveF_rel h n d 15 line line' h1 h2
  refine⟨k.1,?_⟩
  show PE.var n (resolveF r' n d 15 line').2=PE.var n (resolveF r n d 15 line).2
  rw [k.2]
 | .pair op a b,r,r',h=>by
  have k1:=eachF_rel line line' h1 h2 a r r' h
  have k2:=eachF_rel line line' h1 h2 b _ _ k1.1
  refine⟨k2.1,?_⟩
  show PE.pair op (eachF line' r' a.er).2 (eachF line' (eachF line' r' a.er).1 b.er).2=PE.pair op (eachF line r a).2.er (eachF line (eachF line r a).1 b).2.er
  rw [k1.2,k2.2]
theorem nameOf_rel {r r':RV} (h:RRel r r') (n:PNode) (hn:n.line≠0):RRel (nameOf r n).1 (nameOf r' n.er).1∧(nameOf r' n.er).2=(nameOf r n).2.er:=by
 have k:=resolveF_rel h n.name n.nd 15 n.line 1 hn (by decide)
 refine⟨k.1,?_⟩
 show ({ n.er with nd:=(resolveF r' n.name n.nd 15 1).2 }:PNode)=_
 rw [k.2];rfl
theorem chanOf_rel {r r':RV} (h:RRel r r') (n:PNode) (hn:n.line≠0):RRel (chanOf r n).1 (chanOf r' n.er).1∧(chanOf r' n.er).2=(chanOf r n).2.er:=by
 have k:=resolveF_rel h n.chan n.cd 16 n.line 1 hn (by decide)
 refine⟨k.1,?_⟩
 show ({ n.er with cd:=(resolveF r' n.chan n.cd 16 1).2 }:PNode)=_
 rw [k.2];rfl
theorem headOf_rel {r r':RV} (h:RRel r r') (n:PNode) (hn:n.line≠0):RRel (headOf r n).1 (headOf r' n.er).1∧(headOf r' n.er).2=(headOf r n).2.er:=by
 have e:n.er.kind=n.kind:=rfl
 unfold headOf
 rw [e]
 split
 ·exact nameOf_rel h n hn
 ·split
  ·exact chanOf_rel h n hn
  ·split
   ·have k:=chanOf_rel h n hn
    have k2:=nameOf_rel k.1 (chanOf r n).2 hn
    rw [k.2]
    exact k2
   ·exact⟨h,rfl⟩
theorem exprOf_rel {r r':RV} (h:RRel r r') (n:PNode) (hn:n.line≠0):RRel (exprOf r n).1 (exprOf r' n.er).1∧(exprOf r' n.er).2=(exprOf r n).2.er:=by
 have k:=eachF_rel n.line 1 hn (by decide) n.expr r r' h
 refine⟨k.1,?_⟩
 show ({ n.er with expr:=(eachF 1 r' n.expr.er).2 }:PNode)=_
 rw [k.2];rfl
def LOk (ns:List PNode):Prop:=∀ j,0<j->j<ns.length->(ns.getD j default).line≠0
theorem LOk.set {ns:List PNode} (h:LOk ns) (i:Nat) (n:PNode) (hn:n.line≠0):LOk (ns.set i n):=by
 intro j h0 hj
 rw [List.length_set] at hj
 simp only [List.getD,List.getElem?_set]
 have:=h j h0 hj
 simp only [List.getD] at this
 split
 ·rename_i e;subst e;rw [if_pos hj];exact hn
 ·exact this
structure SRel (st st':RV×List PNode):Prop where
 r:RRel st.1 st'.1
 ns:st'.2=st.2.map PNode.er
 lines:LOk st.2
 up:Up st.2
theorem nameF_rel:∀ (f:Nat) (st st':RV×List PNode) (i:Nat),SRel st st'->0<i->i<st.2.length->SRel (nameF f st i) (nameF f st' i)∧(nameF f st i).2.length=st.2.length
 | 0,st,st',i,h,_,_=>⟨h,rfl⟩
 | f+1,st,st',i,h,h0,hi=>by
  have key:∀ (l:List Nat) (x x':RV×List PNode),SRel x x'->(∀ k∈l,0<k∧k<x.2.length)->SRel (l.foldl (nameF f) x) (l.foldl (nameF f) x')∧(l.foldl (nameF f) x).2.length=x.2.length:=by
   intro l
   induction l with
   | nil=>intro x x' hx _;exact⟨hx,rfl⟩
   | cons k l ih =>
    intro x x' hx hl
    have g:=nameF_rel f x x' k hx (hl k (by simp)).1 (hl k (by simp)).2
    have g2:=ih (nameF f x k) (nameF f x' k) g.1 (fun j hj=>by rw [g.2];exact hl j (by simp [hj]))
    exact⟨g2.1,g2.2.trans g.2⟩
  have hn':st'.2.getD i default=(st.2.getD i default).er:=by rw [h.ns];exact er_at _ _ hi
  have hkin:∀ k∈(st.2.getD i default).kids,0<k∧k<st.2.length:=fun k hk=>by have:=h.up i k hk;omega
  have hline:=h.lines i h0 hi
  generalize hN:st.2.getD i default=n at *
  have hkids:n.er.kids=n.kids:=rfl
  have hkind:n.er.kind=n.kind:=rfl
  unfold nameF
  simp only [hn',hN,hkids,hkind]
  split
  ·have hsh:=SameShape.set st.2 i { n with nd:=st.1.next } (by rw [hN]) (by rw [hN])
   have g:=key n.kids (pushF st.1 n,st.2.set i { n with nd:=st.1.next }) (pushF st'.1 n.er,st'.2.set i { n.er with nd:=st'.1.next }) ⟨⟨by
     show st'.1.hold++[⟨n.name,n.kind,st'.1.next⟩]=st.1.hold++[⟨n.name,n.kind,st.1.next⟩]
     rw [h.r.hold,h.r.next],by
     show wrap64 (st'.1.next+1)=wrap64 (st.1.next+1)
     rw [h.r.next],h.r.line⟩,by
     show st'.2.set i _=(st.2.set i _).map PNode.er
     rw [List.map_set,h.ns,h.r.next];rfl,h.lines.set i _ hline,h.up.shape hsh⟩ (fun k hk=>by
     have:=hkin k hk
     rw [List.length_set];exact this)
   refine⟨⟨⟨?_,g.1.r.next,g.1.r.line⟩,g.1.ns,g.1.lines,g.1.up⟩,by rw [g.2,List.length_set]⟩
   exact congrArg List.dropLast g.1.r.hold
  ·have k1:=headOf_rel h.r n hline
   have hh:=headOf_same st.1 n
   have k2:=exprOf_rel k1.1 (headOf st.1 n).2 (by rw [hh.2.2.2.1];exact hline)
   rw [k1.2]
   have hsh:=SameShape.set st.2 i (exprOf (headOf st.1 n).1 (headOf st.1 n).2).2 (by rw [hN];exact hh.1) (by rw [hN];exact hh.2.1)
   have g:=key n.kids ((exprOf (headOf st.1 n).1 (headOf st.1 n).2).1,st.2.set i (exprOf (headOf st.1 n).1 (headOf st.1 n).2).2) ((exprOf (headOf st'.1 n.er).1 (headOf st.1 n).2.er).1,st'.2.set i (exprOf (headOf st'.1 n.er).1 (headOf st.1 n).2.er).2) ⟨k2.1,by
     show st'.2.set i _=(st.2.set i _).map PNode.er
     rw [List.map_set,h.ns,k2.2],h.lines.set i _ (by show (headOf st.1 n).2.line≠0;rw [hh.2.2.2.1];exact hline),h.up.shape hsh⟩ (fun k hk=>by
     have:=hkin k hk
     rw [List.length_set];exact this)
   exact⟨g.1,by rw [g.2,List.length_set]⟩
theorem asks_er:∀ e:PE,asks e.er=asks e
 | .nil=>rfl
 | .num _=>rfl
 | .var _ _=>rfl
 | .pair _ a b=>by show asks a.er++asks b.er=asks a++asks b;rw [asks_er a,asks_er b]
theorem ownU_er (n:PNode):ownU n.er=ownU n:=by
 show headU n++asks n.expr.er=headU n++asks n.expr
 rw [asks_er]
theorem foundF_ne (s line:Int) (h:line≠0):foundF s line≠0:=by
 unfold foundF;split
 ·exact h
 ·rename_i h1;exact fun e=>h1 (.inl e)
theorem shareF_rel (ns:List PNode) (hl:LOk ns) (hup:Up ns):∀ (f:Nat) (s s':Int) (i:Nat),(s=0↔s'=0)->0<i->i<ns.length ->
  (shareF (ns.map PNode.er) f s' i).1=(shareF ns f s i).1∧((shareF ns f s i).2=0↔(shareF (ns.map PNode.er) f s' i).2=0)
 | 0,s,s',i,h,_,_=>⟨rfl,h⟩
 | f+1,s,s',i,h,h0,hi=>by
  have key:∀ (l:List Nat) (a a':List (List (Int×Nat))×Int),a'.1=a.1->(a.2=0↔a'.2=0)->(∀ k∈l,0<k∧k<ns.length)->(l.foldl (stepS (ns.map PNode.er) f) a').1=(l.foldl (stepS ns f) a).1∧((l.foldl (stepS ns f) a).2=0↔(l.foldl (stepS (ns.map PNode.er) f) a').2=0):=by
   intro l
   induction l with
   | nil=>intro a a' h1 h2 _;exact⟨h1,h2⟩
   | cons k l ih =>
    intro a a' h1 h2 h3
    have g:=shareF_rel ns hl hup f a.2 a'.2 k h2 (h3 k (by simp)).1 (h3 k (by simp)).2
    refine ih (stepS ns f a k) (stepS (ns.map PNode.er) f a' k) ?_ g.2 (fun j hj=>h3 j (by simp [hj]))
    show a'.1++[_]=a.1++[_]
    rw [h1,g.1]
  rw [shareF_succ,shareF_succ,er_at ns i hi]
  have hkids:(ns.getD i default).er.kids=(ns.getD i default).kids:=rfl
  rw [hkids]
  have g:=key (ns.getD i default).kids ([],s) ([],s') rfl h (fun k hk=>by have:=hup i k hk;omega)
  have hline:=hl i h0 hi
  generalize ns.getD i default=n at *
  unfold restS
  refine⟨?_,?_⟩
  ·show ownU n.er++_=ownU n++_
   rw [ownU_er,g.1]
  ·have e1:n.er.kind=n.kind:=rfl
   have e2:n.er.line=1:=rfl
   simp only [e1,e2,g.1]
   by_cases hc:(n.kind=8∨n.kind=9)∧anyTwo (List.foldl (stepS ns f) ([],s) n.kids).1=true
   ·rw [if_pos hc,if_pos hc]
    exact⟨fun x=>absurd x (foundF_ne _ _ hline),fun x=>absurd x (foundF_ne _ 1 (by decide))⟩
   ·rw [if_neg hc,if_neg hc]
    exact g.2
def calmB (s:PS):Bool:=decide ((namedF s).1.line=0)&&decide ((shareF (namedF s).2 (namedF s).2.length 0 (rootOf s)).2=0)
theorem calm_er (s:PS) (hl:LOk s.nodes) (hup:Up s.nodes) (hr:0<rootOf s∧rootOf s<s.nodes.length) (h:calmB s.er=true):(namedF s).1.line=0∧(shareF (namedF s).2 (namedF s).2.length 0 (rootOf s)).2=0:=by
 simp only [calmB,Bool.and_eq_true,decide_eq_true_eq] at h
 have e1:rootOf s.er=rootOf s:=by unfold rootOf;rw [(er_atk s 0).1]
 have e2:s.er.nodes.length=s.nodes.length:=by simp [PS.er]
 have g:=nameF_rel s.nodes.length (startR,s.nodes) (startR,s.er.nodes) (rootOf s) ⟨RRel.refl _,rfl,hl,hup⟩ hr.1 hr.2
 have e3:namedF s.er=nameF s.nodes.length (startR,s.er.nodes) (rootOf s):=by unfold namedF;rw [e1,e2]
 rw [e3] at h
 have e4:nameF s.nodes.length (startR,s.nodes) (rootOf s)=namedF s:=rfl
 rw [e4] at g
 refine⟨g.1.r.line.2 h.1,?_⟩
 have h2:=h.2
 rw [g.1.ns,e1,List.length_map] at h2
 exact (shareF_rel (namedF s).2 g.1.lines g.1.up (namedF s).2.length 0 0 (rootOf s) Iff.rfl hr.1 (by rw [g.2];exact hr.2)).2.2 h2
theorem lay_check (xs:List Item) (hx:∀ x∈xs,x.Ok) (t:PS) (hr:runE startP.er (xs.map fun x=>(x.d,x.p.er))=some t) (hc:t.complete 0=true) (hm:calmB t=true) (bad put b:Nat) (hlen:(flatL (lay bad put b 0 xs)).length≤800) :
  checkF (flatL (lay bad put b 0 xs))=if bad<xs.length then (2,(bad:Int)+1+(if put≤bad then 1 else 0)) else (0,0):=by
 have hnl:∀ (ys:List Item) (i:Nat),(∀ y∈ys,y.Ok)->∀ l∈lay bad put b i ys,(10:UInt8)∉l:=by
  intro ys
  induction ys with
  | nil=>intro i _ l hl;simp [lay] at hl
  | cons y ys ih =>
   intro i hy l hl
   unfold lay at hl
   rw [List.mem_append,List.mem_cons] at hl
   have h32:∀ n,(10:UInt8)∉List.replicate n (32:UInt8):=by
    intro n h;rw [List.mem_replicate] at h;exact absurd h.2 (by decide)
   rcases hl with hl|rfl|hl
   ·split at hl
    ·simp only [List.mem_singleton] at hl;subst hl;exact h32 _
    ·simp at hl
   ·have h1:=(hy y (by simp)).nl
    have h2:(10:UInt8)∉wrB bad i:=by unfold wrB;split <;> decide
    have h3:(10:UInt8)∉tlB b i:=by unfold tlB;split <;> decide
    simp only [List.mem_append,not_or]
    exact⟨h32 _,⟨h1,h2⟩,h3⟩
   ·exact ih (i+1) (fun z hz=>hy z (by simp [hz])) l hl
 have hls:=linesF_flat _ (hnl xs 0 hx)
 have hn0:Numd startP:=⟨by decide,fun j h0 hj=>by simp [startP] at hj;omega⟩
 have hgo:=goL_append (lay bad put b 0 xs) [[]] startP 0
 have hend:∀ (s:PS) (n:Nat),goL s n [[]]=.ok s:=by
  intro s n
  have:=goL_blank s n 0 []
  exact this
 unfold checkF
 rw [parseF_go _ hlen,hls,hgo]
 by_cases hb:bad<xs.length
 ·have g:=go_wrong bad put b xs 0 startP 0 t hx startP_ok hn0 hr (by omega) (by omega)
  rw [g,if_pos hb]
  show ((2:Int),_)=_
  congr 1
  by_cases hp:put≤bad
  ·rw [if_pos ⟨by omega,hp⟩,if_pos hp];simp
  ·rw [if_neg (by omega),if_neg hp];simp
 ·obtain⟨s,g,he,hnm⟩:=go_lay bad put b xs 0 startP 0 t hx startP_ok hn0 hr (by omega)
  have hup:s=upTo (lay bad put b 0 xs) (lay bad put b 0 xs).length:=goL_ok _ _ g
  rw [g,if_neg hb]
  simp only [hend]
  have hcs:s.complete 0=true:=by rw [<-er_complete,he];exact hc
  rw [if_pos hcs]
  simp only
  have hrt:0<rootOf s∧rootOf s<s.nodes.length∧Up s.nodes:=by
   obtain⟨E,par,hw⟩:=upTo_walked (lay bad put b 0 xs) (lay bad put b 0 xs).length
   rw [hup] at hcs
   have h0:=(root_lt _ _ hcs).1
   rw [<-hup] at hw h0
   exact⟨(root_in hw h0).1,(root_in hw h0).2,hw.up⟩
  have hcalm:=calm_er s hnm.2 hrt.2.2 ⟨hrt.1,hrt.2.1⟩ (by rw [he];exact hm)
  rw [if_neg (by simpa using hcalm.1),if_neg (by simpa using hcalm.2)]
end Go.Proofs.YtnhidaamfnjdjaaGreatDoor
namespace Go.Proofs.YtnhidaamfnjdjaaGreatDoor
open Go.RowKit
def peEq:PE->PE->Bool
 | .nil,.nil=>true
 | .num a,.num b=>a == b
 | .var n d,.var m e=>n == m&&d == e
 | .pair o a b,.pair p c d=>o == p&&peEq a c&&peEq b d
 | _,_=>false
theorem peEq_eq:∀ a b:PE,peEq a b=true->a=b
 | .nil,.nil,_=>rfl
 | .num a,.num b,h=>by simp [peEq] at h;rw [h]
 | .var n d,.var m e,h=>by simp [peEq] at h;rw [h.1,h.2]
 | .pair o a b,.pair p c d,h=>by
  simp only [peEq,Bool.and_eq_true,beq_iff_eq] at h
  rw [h.1.1,peEq_eq a c h.1.2,peEq_eq b d h.2]
 | .nil,.num _,h=>by simp [peEq] at h
 | .nil,.var _ _,h=>by simp [peEq] at h
 | .nil,.pair _ _ _,h=>by simp [peEq] at h
 | .num _,.nil,h=>by simp [peEq] at h
 | .num _,.var _ _,h=>by simp [peEq] at h
 | .num _,.pair _ _ _,h=>by simp [peEq] at h
 | .var _ _,.nil,h=>by simp [peEq] at h
 | .var _ _,.num _,h=>by simp [peEq] at h
 | .var _ _,.pair _ _ _,h=>by simp [peEq] at h
 | .pair _ _ _,.nil,h=>by simp [peEq] at h
 | .pair _ _ _,.num _,h=>by simp [peEq] at h
 | .pair _ _ _,.var _ _,h=>by simp [peEq] at h
def rdEq (r:LP×Int) (p:LP):Bool:=(r.1.kind == p.kind&&r.1.name == p.name&&r.1.chan == p.chan&&peEq r.1.expr p.expr)&&r.2 == 0
theorem rdEq_eq (r:LP×Int) (p:LP) (h:rdEq r p=true):r=(p,0):=by
 simp only [rdEq,Bool.and_eq_true,beq_iff_eq] at h
 obtain⟨⟨⟨⟨h1,h2⟩,h3⟩,h4⟩,h5⟩:=h
 obtain⟨⟨a,b,c,d⟩,e⟩:=r
 obtain⟨a',b',c',d'⟩:=p
 simp only at h1 h2 h3 h4 h5
 rw [h1,h2,h3,peEq_eq _ _ h4,h5]
def okI (x:Item):Bool :=
 headOk x.b&&rdEq (readLineF x.b (aboveFor x.p.kind)) x.p&&rdEq (readLineF (x.b++[32]) (aboveFor x.p.kind)) x.p &&
  (readLineF (x.b++[32,33,32,59]) (aboveFor x.p.kind)).2 == 2&&(readLineF (x.b++[32,33,32,59]++[32]) (aboveFor x.p.kind)).2 == 2&&!(x.b.contains 10)
theorem okI_ok (x:Item) (h:okI x=true):x.Ok:=by
 simp only [okI,Bool.and_eq_true,beq_iff_eq,Bool.not_eq_true'] at h
 obtain⟨⟨⟨⟨⟨h1,h2⟩,h3⟩,h4⟩,h5⟩,h6⟩:=h
 refine⟨h1,⟨rdEq_eq _ _ h2,rdEq_eq _ _ h3⟩,⟨h4,h5⟩,?_⟩
 intro hm
 rw [List.contains_iff_mem.2 hm] at h6
 cases h6
def digN (k:Nat):Bs:=if k<10 then [UInt8.ofNat (48+k)] else [UInt8.ofNat (48+k / 10),UInt8.ofNat (48+k % 10)]
def lpN (k:Int):LP:=⟨k,[],[],.nil⟩
def xC:Bs:=[99]
def xD:Bs:=[100]
def xX:Bs:=[120]
def xY:Bs:=[121]
def headI:List Item:=[
 ⟨0,[99,104,97,110,32,99],⟨16,xC,[],.nil⟩⟩,
 ⟨1,[99,104,97,110,32,100],⟨16,xD,[],.nil⟩⟩,
 ⟨2,[112,97,114],lpN 8⟩,
 ⟨3,[115,101,113],lpN 7⟩]
def tailI:List Item:=[
 ⟨3,[118,97,114,32,121],⟨15,xY,[],.nil⟩⟩,
 ⟨4,[119,104,105,108,101,32,49],⟨10,[],[],.num 1⟩⟩,
 ⟨5,[115,101,113],lpN 7⟩,
 ⟨6,[105,110,32,63,32,121],⟨5,xY,wIn,.nil⟩⟩,
 ⟨6,[100,32,33,32,121],⟨4,[],xD,.var xY 0⟩⟩,
 ⟨3,[118,97,114,32,120],⟨15,xX,[],.nil⟩⟩,
 ⟨4,[119,104,105,108,101,32,49],⟨10,[],[],.num 1⟩⟩,
 ⟨5,[97,108,116],lpN 13⟩,
 ⟨6,[111,110,32,99,32,63,32,120],⟨14,xX,xC,.nil⟩⟩,
 ⟨7,[111,117,116,32,33,32,120],⟨4,[],wOut,.var xX 0⟩⟩,
 ⟨6,[111,110,32,40,120,32,60,32,52,48,41,32,38,32,100,32,63,32,120],⟨14,xX,xD,.pair 60 (.var xX 0) (.num 40)⟩⟩,
 ⟨7,[111,117,116,32,33,32,48,32,45,32,120],⟨4,[],wOut,.pair 45 (.num 0) (.var xX 0)⟩⟩]
def bitI (c k:Nat):List Item :=
 if c=0 then [⟨4,[99,32,33,32]++digN k,⟨4,[],xC,.num k⟩⟩]
 else if c=1 then [⟨4,[119,97,105,116,32]++digN k,⟨6,[],[],.num k⟩⟩]
 else if c=2 then [⟨4,[105,102],lpN 11⟩,⟨5,([119,104,101,110,32]++digN k)++[32,62,32,50,53],⟨12,[],[],.pair 62 (.num k) (.num 25)⟩⟩,⟨6,[99,32,33,32,49],⟨4,[],xC,.num 1⟩⟩,
  ⟨5,[119,104,101,110,32,49],⟨12,[],[],.num 1⟩⟩,⟨6,[115,107,105,112],lpN 1⟩]
 else [⟨4,[112,97,114],lpN 8⟩,⟨5,[99,32,33,32]++digN k,⟨4,[],xC,.num k⟩⟩,⟨5,[119,97,105,116,32,51],⟨6,[],[],.num 3⟩⟩]
def bagI (rs:List (Nat×Nat)):List Item:=headI++rs.flatMap (fun r=>bitI r.1 r.2)++tailI
theorem fixed_ok:(headI++tailI).all okI=true:=by decide +kernel
theorem bits_ok:∀ c,c<4->∀ k,k<50->(bitI c k).all okI=true:=by decide +kernel
def shE (xs:List Item):List (Nat×LP):=xs.map fun x=>(x.d,x.p.er)
def okShape (cs:List Nat):Bool :=
 match runE startP.er (shE headI++cs.flatMap (fun c=>shE (bitI c 0))++shE tailI) with
 | some t=>t.complete 0&&calmB t
 | none=>false
def allS:Nat->List Nat->Bool
 | 0,cs=>okShape cs
 | n+1,cs=>okShape cs&&allS n (cs++[0])&&allS n (cs++[1])&&allS n (cs++[2])&&allS n (cs++[3])
end Go.Proofs.YtnhidaamfnjdjaaGreatDoor
