import Derived.Test.YtnhidaamfnjdjaaGreatDoorZPure
import Derived.Test.YtnhidaamfnjdjaaGreatDoorZTmA
namespace Go.Proofs.YtnhidaamfnjdjaaGreatDoor
open Go.RowKit Go.Maps
structure TP where
 pile:List (Nat×Nat)
 above:Option Nat
 urg:Bool
 below:Int
 opn:List Nat
 told:Nat
 fin:Bool
instance : Inhabited TP := ⟨⟨[], none, false, 0, [], 0, false⟩⟩
structure TS where
 vars:List Int
 chans:List PCh
 cur:Option Nat
 urg:List Nat
 oth:List Nat
 asleep:List (Int×Int×Nat)
 slept:Int
 time:Int
 out:List Int
 ended:Bool
 faulty:Bool
 procs:List TP
def opE (op:UInt8) (a b:Int):Option Int :=
 let k:=opK op
 if k=3 then some (w64 (a+b))
 else if k=4 then some (w64 (a - b))
 else if k=5 then some (w64 (a * b))
 else if k=6 then (if b=0 then none else some (w64 (a.tdiv b)))
 else if k=7 then (if b=0 then none else some (a.tmod b))
 else if k=8 then some (if a=b then 1 else 0)
 else if k=9 then some (if a<b then 1 else 0)
 else some (if a > b then 1 else 0)
def evalE (vars:List Int):PE->Option Int
 | .nil=>none
 | .num v=>some v
 | .var _ d=>some (vars.getD d.toNat 0)
 | .pair op l r=>match evalE vars l with
  | none=>none
  | some a=>match evalE vars r with
   | none=>none
   | some b=>opE op a b
def guardE (vars:List Int):PE->Option Int
 | .nil=>some 1
 | .num v=>some v
 | .var n d=>evalE vars (.var n d)
 | .pair op l r=>evalE vars (.pair op l r)
namespace TS
def pr (t:TS) (p:Nat):TP:=t.procs.getD p default
def setPr (t:TS) (p:Nat) (x:TP):TS:={ t with procs:=t.procs.set p x }
def ch (t:TS) (c:Int):PCh:=t.chans.getD c.toNat default
def setCh (t:TS) (c:Int) (x:PCh):TS:={ t with chans:=t.chans.set c.toNat x }
def leave (t:TS):TS:={ t with cur:=none }
def fault (t:TS):TS:={ t with faulty:=true,cur:=none }
def goOn (t:TS) (p:Nat):TS :=
 let t:=t.setPr p { t.pr p with told:=0 }
 if (t.pr p).urg=true then { t with urg:=t.urg++[p] } else { t with oth:=t.oth++[p] }
def wait (t:TS) (p how:Nat):TS:=(t.setPr p { t.pr p with told:=how }).leave
def pop (t:TS) (p:Nat):TS:=t.setPr p { t.pr p with pile:=(t.pr p).pile.tail }
def push (t:TS) (p:Nat) (x:Nat×Nat):TS:=t.setPr p { t.pr p with pile:=x :: (t.pr p).pile }
section
variable (T : List PNode)
def down (t:TS) (p k:Nat):TS:=t.push p ((T.getD k default).kids.getD 0 0,0)
def follow (t:TS) (p k:Nat) (n:Int):TS :=
 let t:=({ t with vars:=t.vars.set (T.getD k default).nd.toNat n }:TS).setPr p { t.pr p with opn:=[] }
 if (T.getD k default).kind=14 then t.down T p k else t
def unread (t:TS) (k:Nat):TS:=t.setCh (T.getD k default).cd { t.ch (T.getD k default).cd with rd:=none }
def hasRead (t:TS) (p:Nat) (c n:Int):TS :=
 let o:=(t.pr p).opn
 let t1:=o.foldl (unread T) t
 let t2:=match o.find? (fun k=>(T.getD k default).cd == c) with
  | some k=>t1.follow T p k n
  | none=>t1
 t2.goOn p
def tell (t:TS) (p:Nat) (c n:Int):TS:=if (t.pr p).told=2 then t.hasRead T p c n else t.goOn p
def send (t:TS) (c n:Int):Bool×TS :=
 match (t.ch c).rd with
 | none=>(false,t.setCh c { t.ch c with nums:=(t.ch c).nums++[n] })
 | some p=>(true,t.tell T p c n)
def receive (t:TS) (c:Int):Int×TS :=
 let n:=(t.ch c).nums.headD 0
 let t1:=t.setCh c { t.ch c with nums:=(t.ch c).nums.tail }
 match (t1.ch c).wr with
 | none=>(n,t1)
 | some p=>(n,(t1.setCh c { t1.ch c with wr:=none }).tell T p 0 0)
def reads (t:TS) (p:Nat) (l:List Nat):TS :=
 match l.find? (fun k=>!(t.ch (T.getD k default).cd).nums.isEmpty) with
 | some k=>(t.receive T (T.getD k default).cd).2.follow T p k (t.receive T (T.getD k default).cd).1
 | none =>
  let t:=l.foldl (fun t k=>t.setCh (T.getD k default).cd { t.ch (T.getD k default).cd with rd:=some p }) t
  (t.setPr p { t.pr p with opn:=l }).wait p 2
def beginNew (t:TS) (p i:Nat) (u:Bool):TS :=
 let t1:=t.setPr p { t.pr p with below:=(t.pr p).below+1 }
 ({ t1 with procs:=t1.procs++[⟨[(i,0)],some p,u,0,[],0,false⟩] }:TS).goOn t1.procs.length
def begins (pri:Bool) (t:TS) (p:Nat) (l:List Nat):TS :=
 (List.range l.length).foldl (fun t j=>t.beginNew p (l.getD j 0) (if pri=true∧j=0 then true else (t.pr p).urg)) t
def firstW (vars:List Int):List Nat->Option (Option Nat)
 | []=>some none
 | k :: l=>match evalE vars (T.getD k default).expr with
  | none=>none
  | some v=>if v=0 then firstW vars l else some (some k)
def opens (vars:List Int):List Nat->Option (List Nat)
 | []=>some []
 | k :: l=>match guardE vars (T.getD k default).expr with
  | none=>none
  | some v=>match opens vars l with
   | none=>none
   | some o=>some (if v=0 then o else k :: o)
def free1 (t:TS) (p:Nat):Option TS :=
 match (t.pr p).pile with
 | []=>none
 | (i,d) :: _ =>
  let n:=T.getD i default
  if n.kind=7 then some (if d<n.kids.length then ((t.pop p).push p (i,d+1)).push p (n.kids.getD d 0,0) else t.pop p)
  else if n.kind=15 then some ((({ t with vars:=t.vars.set n.nd.toNat 0 }:TS).pop p).down T p i)
  else if n.kind=16 then some ((t.pop p).down T p i)
  else none
def endP (t:TS) (p:Nat):TS :=
 let t:=t.setPr p { t.pr p with fin:=true }
 match (t.pr p).above with
 | none=>{ t.leave with ended:=true }
 | some q =>
  let t1:=t.leave.setPr q { t.pr q with below:=(t.pr q).below - 1 }
  if (t1.pr q).below=0 then t1.tell T q 0 0 else t1
def stepN (t:TS) (p i:Nat):TS :=
 let n:=T.getD i default
 let t:=t.pop p
 if n.kind=1 then t
 else if n.kind=2 then t.leave
 else if n.kind=3 then
  match evalE t.vars n.expr with
  | none=>t.fault
  | some v=>{ t with vars:=t.vars.set n.nd.toNat v }
 else if n.kind=4 then
  match evalE t.vars n.expr with
  | none=>t.fault
  | some v =>
   if n.cd=2 then { t with out:=t.out++[v] }
   else match t.send T n.cd v with
    | (true,t1)=>t1
    | (false,t1)=>(t1.setCh n.cd { t1.ch n.cd with wr:=some p }).wait p 1
 else if n.kind=5 then
  match opens T t.vars [i] with
  | none=>t.fault
  | some l=>t.reads T p l
 else if n.kind=6 then
  match evalE t.vars n.expr with
  | none=>t.fault
  | some v =>
   if v > 1000000 then t.fault
   else if v > 0 then ({ t with asleep:=pushF' (w64 (t.time+v),t.slept,p) t.asleep,slept:=t.slept+1 }:TS).wait p 1
   else t
 else if n.kind=8∨n.kind=9 then
  let t1:=begins (decide (n.kind=9)) t p n.kids
  if (t1.pr p).below > 0 then t1.wait p 1 else t1
 else if n.kind=10 then
  match evalE t.vars n.expr with
  | none=>t.fault
  | some v=>if v=0 then t else (t.push p (i,0)).down T p i
 else if n.kind=11 then
  match firstW T t.vars n.kids with
  | none=>t.fault
  | some none=>t.leave
  | some (some k)=>t.down T p k
 else
  match opens T t.vars n.kids with
  | none=>t.fault
  | some l=>t.reads T p l
def wakeAll:Nat->TS->TS
 | 0,t=>t
 | f+1,t =>
  match t.asleep with
  | []=>t
  | x :: r=>if x.1=t.time then wakeAll f (({ t with asleep:=(popF (x :: r)).2 }:TS).tell T (popF (x :: r)).1.2.2 0 0) else t
def wakeNext (t:TS):TS :=
 match t.asleep with
 | []=>t
 | x :: r=>wakeAll T (r.length+1) { t with time:=x.1 }
def makeCurrent (t:TS):TS :=
 if t.faulty=true then t
 else
  let t:=if t.urg=[]∧t.oth=[] then t.wakeNext T else t
  match t.urg with
  | p :: r=>{ t with cur:=some p,urg:=r }
  | []=>match t.oth with
   | p :: r=>{ t with cur:=some p,oth:=r }
   | []=>{ t with cur:=none }
def turn (steps d:Int) (t:TS):(Int×TS) ⊕ (Int×TS) :=
 match t.cur with
 | none =>
  if d<steps then
   match (t.makeCurrent T).cur with
   | none=>.inr (d,t.makeCurrent T)
   | some _=>.inl (d,t.makeCurrent T)
  else .inr (d,t)
 | some p =>
  match free1 T t p with
  | some t1=>.inl (d,t1)
  | none =>
   match (t.pr p).pile with
   | []=>.inl (d,t.endP T p)
   | (i,_) :: _=>if steps≤d then .inr (d,t) else .inl (d+1,t.stepN T p i)
def run (steps:Int):Nat->Int->TS->Option (Int×TS)
 | 0,_,_=>none
 | f+1,d,t =>
  match turn T steps d t with
  | .inl r=>run steps f r.1 r.2
  | .inr r=>some r
def feed (t:TS) (n:Int):TS:=(t.send T 1 n).2
def stands (t:TS):Int :=
 if t.faulty=true then 5
 else if t.ended=true then 2
 else if t.cur≠none∨t.urg≠[]∨t.oth≠[]∨t.asleep≠[] then 1
 else if (t.ch 1).rd≠none then 3
 else 4
end
end TS
def newT (room:Int) (root:Nat):TS:=⟨List.replicate room.toNat 0,List.replicate room.toNat default,some 0,[],[],[],0,0,[],false,false,[⟨[(root,0)],none,false,0,[],0,false⟩]⟩
end Go.Proofs.YtnhidaamfnjdjaaGreatDoor
namespace Go.Proofs.YtnhidaamfnjdjaaGreatDoor
open Go.RowKit Go.Maps
section
variable (T : List PNode) (K : List (Int × Int)) (B : List (Int × Int × Int))
inductive Rep:List (Nat×Nat)->Nat->Prop
 | done {a:Nat}:K[a]?=some (24,0)->Rep [] a
 | jump {l:List (Nat×Nat)} {a b:Nat}:K[a]?=some (19,(b:Int))->Rep l b->Rep l a
 | node {l:List (Nat×Nat)} {i a b:Nat}:Seg T K B (.node i) a b->Rep l b->Rep ((i,0) :: l) a
 | seq {l:List (Nat×Nat)} {i d a b:Nat}:(T.getD i default).kind=7->Seg T K B (.nodes ((T.getD i default).kids.drop d)) a b->Rep l b->Rep ((i,d) :: l) a
def afterR (y:TP) (k:Nat):List (Nat×Nat):=if (T.getD k default).kind=14 then ((T.getD k default).kids.getD 0 0,0) :: y.pile else y.pile
def wayOf (kb:Nat×Nat):Int×Int×Int:=((T.getD kb.1 default).cd,(T.getD kb.1 default).nd,(kb.2:Int))
structure PrSim (live:Prop) (x:PPr) (y:TP):Prop where
 above:x.above=y.above
 urg:x.urg=y.urg
 below:x.below=y.below
 told:x.told=y.told
 at_:live->y.told≠2->(∃ a:Nat,x.at_=a∧Rep T K B y.pile a)∧x.opn=[]
 opn:y.told=2->∃ l:List (Nat×Nat),y.opn=l.map Prod.fst∧x.opn=l.map (wayOf T)∧∀ kb∈l,Rep T K B (afterR T y kb.1) kb.2
def TS.live (t:TS) (i:Nat):Prop:=t.cur=some i∨i∈t.urg∨i∈t.oth∨(t.pr i).told≠0
structure SimE (E:Nat->Prop) (s:MS) (t:TS):Prop where
 vars:s.vars=t.vars
 chans:s.chans=t.chans
 cur:s.cur=t.cur
 urg:s.urg=t.urg
 oth:s.oth=t.oth
 asleep:s.asleep=t.asleep
 slept:s.slept=t.slept
 time:s.time=t.time
 out:s.out=t.out
 ended:s.ended=t.ended
 faulty:s.faulty=t.faulty
 len:s.procs.length=t.procs.length
 pr:∀ i,i<t.procs.length->¬ E i->PrSim T K B (t.live i) (s.pr i) (t.pr i)
 stack:t.faulty=false->s.stack=[]
 stk:s.stack.length≤1000000
abbrev SimM (s:MS) (t:TS):Prop:=SimE T K B (fun _=>False) s t
end
def MS.cfg (s:MS) (p:Nat) (x:PPr) (a:Nat) (st:List Int):MS:={ s with procs:=s.procs.set p { x with at_:=(a:Int) },stack:=st }
theorem cfg_pr {s:MS} {p:Nat} (hp:p<s.procs.length) (x:PPr) (a:Nat) (st:List Int):(s.cfg p x a st).pr p={ x with at_:=(a:Int) }:=by
 unfold MS.pr MS.cfg
 simp [hp]
theorem cfg_self {s:MS} {p a:Nat} (hp:p<s.procs.length) (ha:(s.pr p).at_=a):s.cfg p (s.pr p) a s.stack=s:=by
 have:s.procs.set p { s.pr p with at_:=(a:Int) }=s.procs:=by
  apply List.ext_getElem?
  intro j
  rw [List.getElem?_set]
  split
  ·rename_i h
   subst h
   rw [List.getElem?_eq_getElem hp]
   have e:s.pr p=s.procs[p]:=by unfold MS.pr;rw [getD_lt _ _ _ hp]
   rw [e] at ha ⊢
   rw [<-ha]
  ·rfl
 unfold MS.cfg
 rw [this]
def Lens (s:MS):Prop:=s.urg.length<900000000000∧s.oth.length<900000000000∧s.chans.length<900000000000∧s.vars.length<900000000000∧s.out.length<900000000000∧s.asleep.length<900000000000
theorem okLens_of {s:MS} (h:Lens s) (hs:s.stack.length<900000000000):okLens s=true:=by
 obtain⟨h1,h2,h3,h4,h5,h6⟩:=h
 unfold okLens
 simp only [Bool.and_eq_true,Nat.blt_eq]
 exact⟨⟨⟨⟨⟨⟨h1,h2⟩,hs⟩,h3⟩,h4⟩,h5⟩,h6⟩
section
variable {K : List (Int × Int)} {B : List (Int × Int × Int)} {steps : Int}
def Goes (K:List (Int×Int)) (B:List (Int×Int×Int)) (steps d:Int) (s:MS) (d':Int) (s':MS):Prop:=∀ r,(∃ f,runC false K B steps f d' s'=some r)->∃ f,runC false K B steps f d s=some r
theorem Goes.refl (d:Int) (s:MS):Goes K B steps d s d s:=fun _ h=>h
theorem Goes.trans {d d1 d2:Int} {s s1 s2:MS} (h:Goes K B steps d s d1 s1) (k:Goes K B steps d1 s1 d2 s2):Goes K B steps d s d2 s2:=fun r hr=>h r (k r hr)
theorem inB_of {a n:Nat} (h:a<n):inB (a:Int) n=true:=by
 unfold inB
 simp only [Bool.and_eq_true,decide_eq_true_eq,Nat.blt_eq,Int.toNat_natCast]
 exact⟨by omega,h⟩
theorem goes_one {s:MS} {p a:Nat} {x:PPr} {st:List Int} {k v d:Int} (hc:s.cur=some p) (hp:p<s.procs.length) (hl:Lens s) (hst:st.length<900000000000) (hK:K[a]?=some (k,v)) (hk0:0≤k) (hk1:k≤24) (hd:¬ (k=0∧steps≤d))
  (hok:okX false B.length (s.cfg p x (a+1) st) p k v=true):Goes K B steps d (s.cfg p x a st) (if k=0 then d+1 else d) ((s.cfg p x (a+1) st).exec B p k v):=by
 rintro r ⟨f,hf⟩
 refine⟨f+1,?_⟩
 have hol:okLens (s.cfg p x a st)=true:=okLens_of hl hst
 have hcc:(s.cfg p x a st).cur=some p:=hc
 have hpr:=cfg_pr hp x a st
 have hal:a<K.length:=(List.getElem?_eq_some_iff.1 hK).1
 have hkd:K.getD a (0,0)=(k,v):=by rw [List.getD,hK];rfl
 have hpl:p<(s.cfg p x a st).procs.length:=by simp [MS.cfg,hp]
 have hset:(s.cfg p x a st).setPr p { ({ x with at_:=(a:Int) }:PPr) with at_:=(a:Int)+1 }=s.cfg p x (a+1) st:=by
  unfold MS.setPr MS.cfg
  simp
 unfold runC turnC
 rw [hol,hcc]
 dsimp only
 rw [hpr]
 dsimp only
 rw [if_neg (by simp),if_pos ⟨inB_of hal,by rw [Nat.blt_eq];exact hpl⟩,Int.toNat_natCast,hkd,if_neg hd]
 dsimp only
 dsimp only at hset
 rw [hset,if_pos (by rw [Bool.and_eq_true,Bool.and_eq_true,decide_eq_true_eq,decide_eq_true_eq];exact⟨⟨hk0,hk1⟩,hok⟩)]
 exact hf
def varsIn (n:Nat):PE->Prop
 | .nil=>True
 | .num _=>True
 | .var _ d=>0≤d∧d.toNat<n
 | .pair _ l r=>varsIn n l∧varsIn n r
theorem okX_of {s:MS} {p:Nat} {x:PPr} {a:Nat} {st:List Int} {k v:Int} (hl:Lens s) (hst:st.length<900000000000) (hp:p<s.procs.length) (nb:Nat) :
  okX false nb (s.cfg p x a st) p k v=(if k=2 then inB v s.vars.length
 else if k=3∨k=4∨k=5∨k=6∨k=7∨k=8∨k=9∨k=10 then Nat.ble 2 st.length
 else if k=11 then inB v s.vars.length
 else if k=12 then inB v s.vars.length&&Nat.ble 1 st.length
 else if k=13 then Nat.ble 1 st.length
 else okX false nb (s.cfg p x a st) p k v):=by
 have h1:(okLens (s.cfg p x a st)&&Nat.blt p (s.cfg p x a st).procs.length)=true:=by
  rw [Bool.and_eq_true,Nat.blt_eq]
  exact⟨okLens_of hl hst,by simp [MS.cfg,hp]⟩
 by_cases e2:k=2
 ·rw [if_pos e2];unfold okX;rw [h1,Bool.true_and,if_pos e2];rfl
 ·rw [if_neg e2]
  by_cases e3:k=3∨k=4∨k=5∨k=6∨k=7∨k=8∨k=9∨k=10
  ·rw [if_pos e3];unfold okX;rw [h1,Bool.true_and,if_neg e2,if_pos e3];rfl
  ·rw [if_neg e3]
   by_cases e11:k=11
   ·rw [if_pos e11];unfold okX;rw [h1,Bool.true_and,if_neg e2,if_neg e3,if_pos e11];rfl
   ·rw [if_neg e11]
    by_cases e12:k=12
    ·rw [if_pos e12];unfold okX;rw [h1,Bool.true_and,if_neg e2,if_neg e3,if_neg e11,if_pos e12];rfl
    ·rw [if_neg e12]
     by_cases e13:k=13
     ·rw [if_pos e13];unfold okX;rw [h1,Bool.true_and,if_neg e2,if_neg e3,if_neg e11,if_neg e12,if_pos e13];rfl
     ·rw [if_neg e13]
theorem top_two (s:MS) (p:Nat) (x:PPr) (a:Nat) (st:List Int) (u v:Int):(s.cfg p x a (st++[u,v])).top=v∧(s.cfg p x a (st++[u,v])).pop.top=u∧(s.cfg p x a (st++[u,v])).pop.pop=s.cfg p x a st:=by
 have e:st++[u,v]=(st++[u])++[v]:=by simp
 unfold MS.top MS.pop MS.cfg
 simp only [e]
 simp
theorem top_one (s:MS) (p:Nat) (x:PPr) (a:Nat) (st:List Int) (v:Int):(s.cfg p x a (st++[v])).top=v∧(s.cfg p x a (st++[v])).pop=s.cfg p x a st:=by
 unfold MS.top MS.pop MS.cfg
 simp
theorem put_cfg (s:MS) (p:Nat) (x:PPr) (a:Nat) (st:List Int) (v:Int):(s.cfg p x a st).put v=s.cfg p x a (st++[v]):=rfl
theorem opK_range (op:UInt8):3≤opK op∧opK op≤10:=by
 unfold opK
 repeat (split;·omega)
 omega
theorem exec_op (s:MS) (p:Nat) (x:PPr) (a:Nat) (st:List Int) (u v:Int) (op:UInt8) (Bs':List (Int×Int×Int)) :
  (s.cfg p x a (st++[u,v])).exec Bs' p (opK op) 0=(match opE op u v with|none=>(s.cfg p x a st).fault|some r=>s.cfg p x a (st++[r])):=by
 obtain⟨t1,t2,t3⟩:=top_two s p x a st u v
 have hr:=opK_range op
 unfold opE
 generalize opK op=k at *
 have cases:k=3∨k=4∨k=5∨k=6∨k=7∨k=8∨k=9∨k=10:=by omega
 have ex:∀ (f:Int->Int->MS->MS),(s.cfg p x a (st++[u,v])).two f=f u v (s.cfg p x a st):=fun f=>by unfold MS.two;rw [t1,t2,t3]
 unfold MS.exec
 simp only [ex]
 rcases cases with rfl|rfl|rfl|rfl|rfl|rfl|rfl|rfl
 all_goals simp [put_cfg]
 all_goals
  by_cases hv:v=0
  ·simp [hv]
  ·simp [hv]
theorem ExS.lt {e:PE} {a b:Nat} (h:ExS K e a b):a<b:=by
 induction h with
 | num _=>omega
 | var _=>omega
 | pair _ _ _ i1 i2=>omega
theorem ex_goes {s:MS} {p:Nat} {x:PPr} {d:Int} (hc:s.cur=some p) (hp:p<s.procs.length) (hl:Lens s) {e:PE} {a b:Nat} (h:ExS K e a b):varsIn s.vars.length e->∀ st:List Int,st.length+(b - a)<900000000000 ->
  (∀ v,evalE s.vars e=some v->Goes K B steps d (s.cfg p x a st) d (s.cfg p x b (st++[v])))∧(evalE s.vars e=none->∃ a' st',st'.length≤st.length+(b - a)∧Goes K B steps d (s.cfg p x a st) d (s.cfg p x a' st').fault):=by
 induction h with
 | @num v a hK =>
  intro _ st hst
  refine⟨fun v' hv=>?_,fun hv=>by cases hv⟩
  have hv:v=v':=by injection hv
  subst hv
  have:=goes_one (B:=B) (steps:=steps) (d:=d) (x:=x) (st:=st) hc hp hl (by omega) hK (by omega) (by omega) (by omega) (by unfold okX;rw [show okLens (s.cfg p x (a+1) st)=true from okLens_of hl (by show st.length<_;omega)];simp [MS.cfg,hp])
  exact this
 | @var n v a hK =>
  intro hv st hst
  have hv:0≤v∧v.toNat<s.vars.length:=hv
  refine⟨fun v' hv'=>?_,fun hv=>by cases hv⟩
  have hv':s.vars.getD v.toNat 0=v':=by injection hv'
  subst hv'
  have:=goes_one (B:=B) (steps:=steps) (d:=d) (x:=x) (st:=st) hc hp hl (by omega) hK (by omega) (by omega) (by omega) (by
   rw [okX_of hl (by omega) hp,if_pos rfl]
   unfold inB
   simp only [Bool.and_eq_true,decide_eq_true_eq,Nat.blt_eq]
   exact hv)
  exact this
 | @pair op l r a b c h1 h2 hK i1 i2 =>
  intro hv st hst
  have hv:varsIn s.vars.length l∧varsIn s.vars.length r:=hv
  have l1:=h1.lt
  have l2:=h2.lt
  have hr:=opK_range op
  have j1:=i1 hv.1 st (by omega)
  cases e1:evalE s.vars l with
  | none =>
   refine⟨fun v hv=>?_,fun _=>?_⟩
   ·have:evalE s.vars (.pair op l r)=none:=by show (match evalE s.vars l with|none=>none|some a=>_)=_;rw [e1]
    rw [this] at hv
    cases hv
   ·obtain⟨a',st',l2,g2⟩:=j1.2 e1
    exact⟨a',st',by omega,g2⟩
  | some u =>
   have g1:=j1.1 u e1
   have j2:=i2 hv.2 (st++[u]) (by simp;omega)
   have ee:evalE s.vars (.pair op l r)=match evalE s.vars r with|none=>none|some b=>opE op u b:=by
    show (match evalE s.vars l with|none=>none|some a=>_)=_
    rw [e1]
    try rfl
   cases e2:evalE s.vars r with
   | none =>
    rw [e2] at ee
    refine⟨fun v hv=>?_,fun _=>?_⟩
    ·rw [ee] at hv
     cases hv
    ·obtain⟨a',st',l2,g2⟩:=j2.2 e2
     rw [List.length_append] at l2
     exact⟨a',st',by simp at l2;omega,g1.trans g2⟩
   | some v =>
    rw [e2] at ee
    dsimp only at ee
    have g2:=j2.1 v e2
    rw [show st++[u]++[v]=st++[u,v] by simp] at g2
    have g3:=goes_one (B:=B) (steps:=steps) (d:=d) (x:=x) (st:=st++[u,v]) hc hp hl (by simp;omega) hK (by omega) (by omega) (by omega) (by
     rw [okX_of hl (by simp;omega) hp,if_neg (by omega),if_pos (by omega)]
     exact Nat.ble_eq_true_of_le (by simp))
    rw [exec_op,if_neg (by omega)] at g3
    have g:=(g1.trans g2).trans g3
    cases e3:opE op u v with
    | none =>
     rw [e3] at g ee
     refine⟨fun w hw=>?_,fun _=>⟨_,_,by omega,g⟩⟩
     rw [ee] at hw
     cases hw
    | some q =>
     rw [e3] at g ee
     refine⟨fun w hw=>?_,fun hw=>?_⟩
     ·rw [ee] at hw
      have hw:q=w:=by injection hw
      subst hw
      exact g
     ·rw [ee] at hw
      cases hw
end
end Go.Proofs.YtnhidaamfnjdjaaGreatDoor
namespace Go.Proofs.YtnhidaamfnjdjaaGreatDoor
open Go.RowKit Go.Maps
theorem MS.pr_self {s:MS} {p:Nat} (hp:p<s.procs.length) (x:PPr):(s.setPr p x).pr p=x:=by unfold MS.pr MS.setPr;simp [hp]
theorem MS.pr_ne (s:MS) {p i:Nat} (h:i≠p) (x:PPr):(s.setPr p x).pr i=s.pr i:=by
 unfold MS.pr MS.setPr
 simp only [List.getD,List.getElem?_set,if_neg (fun e:p=i=>h e.symm)]
theorem TS.pr_self {t:TS} {p:Nat} (hp:p<t.procs.length) (y:TP):(t.setPr p y).pr p=y:=by unfold TS.pr TS.setPr;simp [hp]
theorem TS.pr_ne (t:TS) {p i:Nat} (h:i≠p) (y:TP):(t.setPr p y).pr i=t.pr i:=by
 unfold TS.pr TS.setPr
 simp only [List.getD,List.getElem?_set,if_neg (fun e:p=i=>h e.symm)]
theorem MS.len_set (s:MS) (p:Nat) (x:PPr):(s.setPr p x).procs.length=s.procs.length:=by simp [MS.setPr]
theorem TS.len_set (t:TS) (p:Nat) (y:TP):(t.setPr p y).procs.length=t.procs.length:=by simp [TS.setPr]
section
variable {T : List PNode} {K : List (Int × Int)} {B : List (Int × Int × Int)} {E : Nat → Prop} {s : MS} {t : TS}
theorem PrSim.weak {a b:Prop} {x:PPr} {y:TP} (h:PrSim T K B a x y) (hb:b->a):PrSim T K B b x y:=⟨h.above,h.urg,h.below,h.told,fun q=>h.at_ (hb q),h.opn⟩
theorem SimE.open {E':Nat->Prop} (h:SimE T K B E s t) (he:∀ i,E i->E' i):SimE T K B E' s t:={ h with pr:=fun i hi hn=>h.pr i hi (fun x=>hn (he i x)) }
theorem SimE.close {p:Nat} (h:SimE T K B (fun i=>i=p∨E i) s t) (hp:PrSim T K B (t.live p) (s.pr p) (t.pr p)):SimE T K B E s t:=by
 refine { h with pr:=fun i hi hn=>?_ }
 by_cases e:i=p
 ·subst e;exact hp
 ·exact h.pr i hi (fun x=>x.elim e hn)
theorem SimE.setPr {p:Nat} (h:SimE T K B E s t) (he:E p) (x:PPr) (y:TP):SimE T K B E (s.setPr p x) (t.setPr p y):=by
 refine { h with len:=by rw [MS.len_set,TS.len_set];exact h.len,pr:=fun i hi hn=>?_ }
 have hip:i≠p:=fun e=>hn (e ▸ he)
 rw [TS.len_set] at hi
 rw [MS.pr_ne _ hip,TS.pr_ne _ hip]
 refine (h.pr i hi hn).weak ?_
 rintro (a|a|a|a)
 ·exact .inl a
 ·exact .inr (.inl a)
 ·exact .inr (.inr (.inl a))
 ·rw [TS.pr_ne _ hip] at a;exact .inr (.inr (.inr a))
theorem SimE.setVars (h:SimE T K B E s t) (v:List Int):SimE T K B E { s with vars:=v } { t with vars:=v }:={ h with vars:=rfl }
theorem SimE.setChans (h:SimE T K B E s t) (v:List PCh):SimE T K B E { s with chans:=v } { t with chans:=v }:={ h with chans:=rfl }
theorem SimE.ch (h:SimE T K B E s t) (c:Int):s.ch c=t.ch c:=by unfold MS.ch TS.ch;rw [h.chans]
theorem SimE.setCh (h:SimE T K B E s t) (c:Int) (x:PCh):SimE T K B E (s.setCh c x) (t.setCh c x):={ h with chans:=by show s.chans.set _ _=t.chans.set _ _;rw [h.chans] }
theorem SimE.leave (h:SimE T K B E s t):SimE T K B E s.leave t.leave:=by
 refine { h with cur:=rfl,pr:=fun i hi hn=>(h.pr i hi hn).weak ?_ }
 rintro (a|a|a|a)
 ·cases a
 ·exact .inr (.inl a)
 ·exact .inr (.inr (.inl a))
 ·exact .inr (.inr (.inr a))
theorem SimE.fault (h:SimE T K B E s t):SimE T K B E s.fault t.fault :=
 {h.leave with
  faulty:=rfl
  stack:=fun x=>by cases x
  pr:=fun i hi hn=>(h.leave.pr i hi hn).weak (fun a=>a) }
theorem SimE.restack (h:SimE T K B E s t) (hf:t.faulty=true) (st:List Int) (hst:st.length≤1000000):SimE T K B E { s with stack:=st } t:={ h with stack:=(fun x=>by rw [hf] at x;cases x),stk:=hst }
theorem MS.goOn_is (s:MS) {p:Nat} (hp:p<s.procs.length):s.goOn p={ s with procs:=s.procs.set p { s.pr p with told:=0 },urg:=if (s.pr p).urg=true then s.urg++[p] else s.urg,oth:=if (s.pr p).urg=true then s.oth else s.oth++[p] }:=by
 unfold MS.goOn
 dsimp only
 rw [MS.pr_self hp]
 dsimp only
 by_cases h:(s.pr p).urg=true
 ·rw [if_pos h,if_pos h,if_pos h];rfl
 ·rw [if_neg h,if_neg h,if_neg h];rfl
theorem TS.goOn_is (t:TS) {p:Nat} (hp:p<t.procs.length):t.goOn p={ t with procs:=t.procs.set p { t.pr p with told:=0 },urg:=if (t.pr p).urg=true then t.urg++[p] else t.urg,oth:=if (t.pr p).urg=true then t.oth else t.oth++[p] }:=by
 unfold TS.goOn
 dsimp only
 rw [TS.pr_self hp]
 dsimp only
 by_cases h:(t.pr p).urg=true
 ·rw [if_pos h,if_pos h,if_pos h];rfl
 ·rw [if_neg h,if_neg h,if_neg h];rfl
theorem SimE.goOnX {q:Nat} (h:SimE T K B (fun i=>i=q∨E i) s t) (hq:q<t.procs.length) (hab:(s.pr q).above=(t.pr q).above) (hur:(s.pr q).urg=(t.pr q).urg) (hbe:(s.pr q).below=(t.pr q).below) (ha:∃ a:Nat,(s.pr q).at_=a∧Rep T K B (t.pr q).pile a) (ho:(s.pr q).opn=[]):SimE T K B E (s.goOn q) (t.goOn q):=by
 have hqs:q<s.procs.length:=by rw [h.len];exact hq
 have h1:=(h.setPr (.inl rfl) { s.pr q with told:=0 } { t.pr q with told:=0 })
 rw [MS.goOn_is s hqs,TS.goOn_is t hq]
 have hpr:∀ (L L':List Nat),({ s with procs:=s.procs.set q { s.pr q with told:=0 },urg:=L,oth:=L' }:MS).pr=(s.setPr q { s.pr q with told:=0 }).pr:=fun _ _=>rfl
 have hpt:∀ (L L':List Nat),({ t with procs:=t.procs.set q { t.pr q with told:=0 },urg:=L,oth:=L' }:TS).pr=(t.setPr q { t.pr q with told:=0 }).pr:=fun _ _=>rfl
 refine { h1 with urg:=?_,oth:=?_,pr:=fun i hi hn=>?_ }
 ·show (if (s.pr q).urg=true then s.urg++[q] else s.urg)=_
  rw [hur,h.urg]
 ·show (if (s.pr q).urg=true then s.oth else s.oth++[q])=_
  rw [hur,h.oth]
 ·rw [hpr,hpt]
  by_cases e:i=q
  ·subst e
   rw [MS.pr_self hqs,TS.pr_self hq]
   exact⟨hab,hur,hbe,rfl,fun _ _=>⟨ha,ho⟩,fun x=>by cases x⟩
  ·refine (h1.pr i hi (fun x=>x.elim e hn)).weak ?_
   rintro (a|a|a|a)
   ·exact .inl a
   ·have a:i∈(if (t.pr q).urg=true then t.urg++[q] else t.urg):=a
    refine .inr (.inl ?_)
    show i∈t.urg
    split at a
    ·rcases List.mem_append.1 a with a|a
     ·exact a
     ·exact absurd (by simpa using a) e
    ·exact a
   ·have a:i∈(if (t.pr q).urg=true then t.oth else t.oth++[q]):=a
    refine .inr (.inr (.inl ?_))
    show i∈t.oth
    split at a
    ·exact a
    ·rcases List.mem_append.1 a with a|a
     ·exact a
     ·exact absurd (by simpa using a) e
   ·exact .inr (.inr (.inr a))
theorem SimE.goOn {q:Nat} (h:SimE T K B E s t) (hE:¬ E q) (hq:q<t.procs.length) (ht:(t.pr q).told=1):SimE T K B E (s.goOn q) (t.goOn q):=by
 have k:=h.pr q hq hE
 have a:=k.at_ (.inr (.inr (.inr (by rw [ht];decide)))) (by rw [ht];decide)
 exact (h.open (fun i x=>.inr x)).goOnX hq k.above k.urg k.below a.1 a.2
theorem unreads_sim (l:List (Nat×Nat)):∀ {s:MS} {t:TS},SimE T K B E s t->SimE T K B E ((l.map (wayOf T)).foldl MS.unread s) ((l.map Prod.fst).foldl (TS.unread T) t)∧((l.map (wayOf T)).foldl MS.unread s).procs=s.procs∧((l.map Prod.fst).foldl (TS.unread T) t).procs=t.procs:=by
 induction l with
 | nil=>intro s t h;exact⟨h,rfl,rfl⟩
 | cons kb l ih =>
  intro s t h
  have e1:MS.unread s (wayOf T kb)=s.setCh (T.getD kb.1 default).cd { s.ch (T.getD kb.1 default).cd with rd:=none }:=rfl
  have e2:TS.unread T t kb.1=t.setCh (T.getD kb.1 default).cd { t.ch (T.getD kb.1 default).cd with rd:=none }:=rfl
  simp only [List.map_cons,List.foldl_cons]
  rw [e1,e2]
  have h1:SimE T K B E (s.setCh (T.getD kb.1 default).cd { s.ch (T.getD kb.1 default).cd with rd:=none }) (t.setCh (T.getD kb.1 default).cd { t.ch (T.getD kb.1 default).cd with rd:=none }):=by
   rw [h.ch]
   exact h.setCh _ _
  have:=ih h1
  exact⟨this.1,this.2.1,this.2.2⟩
theorem MS.pr_procs {s s':MS} (h:s'.procs=s.procs) (i:Nat):s'.pr i=s.pr i:=by unfold MS.pr;rw [h]
theorem TS.pr_procs {t t':TS} (h:t'.procs=t.procs) (i:Nat):t'.pr i=t.pr i:=by unfold TS.pr;rw [h]
theorem TS.follow_is (t:TS) {p:Nat} (hp:p<t.procs.length) (k:Nat) (n:Int):t.follow T p k n=({ t with vars:=t.vars.set (T.getD k default).nd.toNat n }:TS).setPr p { t.pr p with opn:=[],pile:=afterR T (t.pr p) k }:=by
 unfold TS.follow afterR
 dsimp only
 split
 ·unfold TS.down TS.push
  rw [TS.pr_self (t:={ t with vars:=t.vars.set (T.getD k default).nd.toNat n }) hp]
  unfold TS.setPr
  simp
 ·rfl
theorem SimE.hasRead {q:Nat} (h:SimE T K B E s t) (hE:¬ E q) (hq:q<t.procs.length) (ht:(t.pr q).told=2) (c n:Int) (hc:∃ k∈(t.pr q).opn,(T.getD k default).cd=c):SimE T K B E (s.hasRead q c n) (t.hasRead T q c n):=by
 have k:=h.pr q hq hE
 obtain⟨l,hl1,hl2,hl3⟩:=k.opn ht
 obtain⟨u,us,ut⟩:=unreads_sim (E:=E) l h
 have hqs:q<s.procs.length:=by rw [h.len];exact hq
 have f1:(l.map (wayOf T)).find? (fun b=>b.1 == c)=(l.find? (fun kb=>(T.getD kb.1 default).cd == c)).map (wayOf T):=by rw [List.find?_map];rfl
 have f2:(l.map Prod.fst).find? (fun k=>(T.getD k default).cd == c)=(l.find? (fun kb=>(T.getD kb.1 default).cd == c)).map Prod.fst:=by rw [List.find?_map];rfl
 have hex:∃ kb,l.find? (fun kb=>(T.getD kb.1 default).cd == c)=some kb:=by
  obtain⟨k0,hk0,hk1⟩:=hc
  rw [hl1] at hk0
  obtain⟨kb,hkb,rfl⟩:=List.mem_map.1 hk0
  cases hf:l.find? (fun kb=>(T.getD kb.1 default).cd == c) with
  | some kb=>exact⟨kb,rfl⟩
  | none =>
   rw [List.find?_eq_none] at hf
   exact absurd (by simpa using hk1) (hf kb hkb)
 obtain⟨kb,hkb⟩:=hex
 unfold MS.hasRead TS.hasRead
 dsimp only
 rw [hl1,hl2,f1,f2,hkb]
 dsimp only [Option.map_some]
 have hmem:=List.mem_of_find?_eq_some hkb
 have hrep:=hl3 kb hmem
 generalize (l.map (wayOf T)).foldl MS.unread s=s1 at *
 generalize (l.map Prod.fst).foldl (TS.unread T) t=t1 at *
 have hq1:q<t1.procs.length:=by rw [ut];exact hq
 have hqs1:q<s1.procs.length:=by rw [us];exact hqs
 rw [TS.follow_is t1 hq1]
 unfold MS.follow
 rw [MS.pr_procs us,TS.pr_procs ut]
 have e0:(wayOf T kb).2.1=(T.getD kb.1 default).nd:=rfl
 rw [e0]
 have u1:SimE T K B (fun i=>i=q∨E i) { s1 with vars:=s1.vars.set (T.getD kb.1 default).nd.toNat n } { t1 with vars:=t1.vars.set (T.getD kb.1 default).nd.toNat n }:=by
  rw [u.vars]
  exact (u.setVars _).open (fun i x=>.inr x)
 have u2:=u1.setPr (p:=q) (.inl rfl) { s.pr q with at_:=(wayOf T kb).2.2,opn:=[] } { t.pr q with opn:=[],pile:=afterR T (t.pr q) kb.1 }
 refine u2.goOnX (by rw [TS.len_set];exact hq1) ?_ ?_ ?_ ?_ ?_
 all_goals rw [MS.pr_self (s:={ s1 with vars:=s1.vars.set (T.getD kb.1 default).nd.toNat n }) hqs1]
 ·rw [TS.pr_self (t:={ t1 with vars:=t1.vars.set (T.getD kb.1 default).nd.toNat n }) hq1];exact k.above
 ·rw [TS.pr_self (t:={ t1 with vars:=t1.vars.set (T.getD kb.1 default).nd.toNat n }) hq1];exact k.urg
 ·rw [TS.pr_self (t:={ t1 with vars:=t1.vars.set (T.getD kb.1 default).nd.toNat n }) hq1];exact k.below
 ·rw [TS.pr_self (t:={ t1 with vars:=t1.vars.set (T.getD kb.1 default).nd.toNat n }) hq1]
  exact⟨kb.2,rfl,hrep⟩
theorem SimE.tell1 {q:Nat} (h:SimE T K B E s t) (hE:¬ E q) (hq:q<t.procs.length) (ht:(t.pr q).told=1) (c n:Int):SimE T K B E (s.tell q c n) (t.tell T q c n):=by
 have k:=h.pr q hq hE
 unfold MS.tell TS.tell
 rw [k.told,ht]
 exact h.goOn hE hq ht
theorem SimE.tell2 {q:Nat} (h:SimE T K B E s t) (hE:¬ E q) (hq:q<t.procs.length) (ht:(t.pr q).told=2) (c n:Int) (hc:∃ k∈(t.pr q).opn,(T.getD k default).cd=c):SimE T K B E (s.tell q c n) (t.tell T q c n):=by
 have k:=h.pr q hq hE
 unfold MS.tell TS.tell
 rw [k.told,ht,if_pos rfl,if_pos rfl]
 exact h.hasRead hE hq ht c n hc
theorem SimE.send (h:SimE T K B E s t) (c n:Int) (hr:∀ q,(t.ch c).rd=some q->¬ E q∧q<t.procs.length∧(t.pr q).told=2∧∃ k∈(t.pr q).opn,(T.getD k default).cd=c):(s.send c n).1=(t.send T c n).1∧SimE T K B E (s.send c n).2 (t.send T c n).2:=by
 unfold MS.send TS.send
 rw [h.ch]
 cases hq:(t.ch c).rd with
 | none=>exact⟨rfl,h.setCh _ _⟩
 | some q =>
  obtain⟨h1,h2,h3,h4⟩:=hr q hq
  exact⟨rfl,h.tell2 h1 h2 h3 c n h4⟩
theorem SimE.receive (h:SimE T K B E s t) (c:Int) (hw:∀ q,((t.setCh c { t.ch c with nums:=(t.ch c).nums.tail }).ch c).wr=some q->¬ E q∧q<t.procs.length∧(t.pr q).told=1):(s.receive c).1=(t.receive T c).1∧SimE T K B E (s.receive c).2 (t.receive T c).2:=by
 have h1:=h.setCh c { t.ch c with nums:=(t.ch c).nums.tail }
 unfold MS.receive TS.receive
 dsimp only
 rw [h.ch,h1.ch]
 cases hq:((t.setCh c { t.ch c with nums:=(t.ch c).nums.tail }).ch c).wr with
 | none=>exact⟨rfl,h1⟩
 | some q =>
  obtain⟨a1,a2,a3⟩:=hw q hq
  refine⟨rfl,?_⟩
  exact (h1.setCh c _).tell1 a1 a2 a3 0 0
end
end Go.Proofs.YtnhidaamfnjdjaaGreatDoor
namespace Go.Proofs.YtnhidaamfnjdjaaGreatDoor
open Go.RowKit Go.Maps
section
variable {T : List PNode} {K : List (Int × Int)} {B : List (Int × Int × Int)} {steps : Int} {s : MS} {t : TS} {p : Nat}
theorem okX_plain {x:PPr} {a:Nat} {st:List Int} {k v:Int} {nb:Nat} (hl:Lens s) (hst:st.length<900000000000) (hp:p<s.procs.length) (hk:k=0∨k=1∨k=19∨k=20∨k=23):okX false nb (s.cfg p x a st) p k v=true:=by
 have h1:(okLens (s.cfg p x a st)&&Nat.blt p (s.cfg p x a st).procs.length)=true:=by
  rw [Bool.and_eq_true,Nat.blt_eq]
  exact⟨okLens_of hl hst,by simp [MS.cfg,hp]⟩
 unfold okX
 rw [h1,Bool.true_and]
 rcases hk with rfl|rfl|rfl|rfl|rfl <;> rfl
theorem okX_core {x:PPr} {a:Nat} {st:List Int} {k v:Int} {nb:Nat} {c:Bool} (hl:Lens s) (hst:st.length<900000000000) (hp:p<s.procs.length) (h:((okLens (s.cfg p x a st)&&Nat.blt p (s.cfg p x a st).procs.length)=true->okX false nb (s.cfg p x a st) p k v=c)) (hc:c=true):okX false nb (s.cfg p x a st) p k v=true:=by
 rw [h (by rw [Bool.and_eq_true,Nat.blt_eq];exact⟨okLens_of hl hst,by simp [MS.cfg,hp]⟩)]
 exact hc
theorem cfg_cfg (x y:PPr) (a b:Nat) (st st':List Int):(s.cfg p x a st).cfg p y b st'=s.cfg p y b st':=by
 unfold MS.cfg
 simp
theorem cfg_setPr (x y:PPr) (a:Nat) (st:List Int):(s.cfg p x a st).setPr p y={ s.setPr p y with stack:=st }:=by
 unfold MS.cfg MS.setPr
 simp
theorem exec_jump (hp:p<s.procs.length) (x:PPr) (a b:Nat) (st:List Int):(s.cfg p x a st).exec B p 19 (b:Int)=s.cfg p x b st:=by
 show MS.jump _ _ _=_
 unfold MS.jump
 rw [cfg_pr hp,cfg_setPr]
 rfl
theorem goes_jump {x:PPr} {a b:Nat} {st:List Int} {d:Int} (hc:s.cur=some p) (hp:p<s.procs.length) (hl:Lens s) (hst:st.length<900000000000) (hK:K[a]?=some (19,(b:Int))):Goes K B steps d (s.cfg p x a st) d (s.cfg p x b st):=by
 have:=goes_one (B:=B) (steps:=steps) (d:=d) (x:=x) (st:=st) hc hp hl hst hK (by omega) (by omega) (by omega) (okX_plain hl hst hp (by omega))
 rw [exec_jump hp,if_neg (by omega)] at this
 exact this
def Head (T:List PNode) (K:List (Int×Int)) (B:List (Int×Int×Int)) (l:List (Nat×Nat)) (a:Nat):Prop :=
 match l with
 | []=>K[a]?=some (24,0)
 | (i,d) :: l=>(d=0∧∃ b,Seg T K B (.node i) a b∧Rep T K B l b)∨((T.getD i default).kind=7∧∃ b,Seg T K B (.nodes ((T.getD i default).kids.drop d)) a b∧Rep T K B l b)
theorem rep_head {l:List (Nat×Nat)} {a:Nat} (h:Rep T K B l a) (x:PPr) (st:List Int) (d:Int) (hc:s.cur=some p) (hp:p<s.procs.length) (hl:Lens s) (hst:st.length<900000000000):∃ a',Head T K B l a'∧Goes K B steps d (s.cfg p x a st) d (s.cfg p x a' st):=by
 induction h with
 | done hK=>exact⟨_,hK,Goes.refl _ _⟩
 | jump hK _ ih =>
  obtain⟨a',h1,h2⟩:=ih
  exact⟨a',h1,(goes_jump hc hp hl hst hK).trans h2⟩
 | node h1 h2=>exact⟨_,.inl ⟨rfl,_,h1,h2⟩,Goes.refl _ _⟩
 | seq hk h1 h2=>exact⟨_,.inr ⟨hk,_,h1,h2⟩,Goes.refl _ _⟩
theorem Head.rep {l:List (Nat×Nat)} {a:Nat} (h:Head T K B l a):Rep T K B l a:=by
 cases l with
 | nil=>exact .done h
 | cons x l =>
  obtain⟨i,d⟩:=x
  rcases h with ⟨rfl,b,h1,h2⟩|⟨hk,b,h1,h2⟩
  ·exact .node h1 h2
  ·exact .seq hk h1 h2
theorem SimE.apart {E:Nat->Prop} (h:SimE T K B E s t) (p:Nat) (x:PPr) (a:Nat) (y:TP):SimE T K B (fun i=>i=p∨E i) (s.cfg p x a []) (t.setPr p y):=by
 have h1:=(h.open (E':=fun i=>i=p∨E i) (fun i x=>.inr x)).setPr (p:=p) (.inl rfl) { x with at_:=(a:Int) } y
 exact { h1 with stack:=(fun _=>rfl),stk:=Nat.zero_le _ }
structure CurK (T:List PNode) (K:List (Int×Int)) (B:List (Int×Int×Int)) (s:MS) (t:TS) (p:Nat):Prop where
 sim:SimM T K B s t
 cur:t.cur=some p
 lt:p<t.procs.length
 told:(t.pr p).told=0
 flt:t.faulty=false
 out:p∉t.urg∧p∉t.oth
 lens:Lens s
theorem CurK.curS (h:CurK T K B s t p):s.cur=some p:=by rw [h.sim.cur];exact h.cur
theorem CurK.ltS (h:CurK T K B s t p):p<s.procs.length:=by rw [h.sim.len];exact h.lt
theorem CurK.at_ (h:CurK T K B s t p) (d:Int):∃ a',Head T K B (t.pr p).pile a'∧(s.pr p).opn=[]∧Goes K B steps d s d (s.cfg p (s.pr p) a' []):=by
 have k:=h.sim.pr p h.lt (fun x=>x)
 obtain⟨⟨a,ha,hr⟩,ho⟩:=k.at_ (.inl h.cur) (by rw [h.told];decide)
 have hs:=h.sim.stack h.flt
 have e:=cfg_self h.ltS ha
 rw [hs] at e
 obtain⟨a',h1,h2⟩:=rep_head (steps:=steps) hr (s.pr p) [] d h.curS h.ltS h.lens (by simp)
 rw [e] at h2
 exact⟨a',h1,ho,h2⟩
theorem CurK.move (h:CurK T K B s t p) (a:Nat) (y:TP) (ho:(s.pr p).opn=[]) (hr:Rep T K B y.pile a) (h1:y.above=(t.pr p).above) (h2:y.urg=(t.pr p).urg) (h3:y.below=(t.pr p).below) (h4:y.told=0):SimM T K B (s.cfg p (s.pr p) a []) (t.setPr p y):=by
 have k:=h.sim.pr p h.lt (fun x=>x)
 refine (h.sim.apart p (s.pr p) a y).close ?_
 rw [cfg_pr h.ltS,TS.pr_self h.lt]
 exact⟨k.above.trans h1.symm,k.urg.trans h2.symm,k.below.trans h3.symm,by show (s.pr p).told=_;rw [k.told,h.told,h4],fun _ _=>⟨⟨a,rfl,hr⟩,ho⟩,fun x=>by rw [h4] at x;cases x⟩
theorem seg_nodes_cons {k:Nat} {l:List Nat} {a b:Nat} (h:Seg T K B (.nodes (k :: l)) a b):∃ c,Seg T K B (.node k) a c∧Seg T K B (.nodes l) c b:=by
 cases h with
 | cons h1 h2=>exact⟨_,h1,h2⟩
theorem seg_nodes_nil {a b:Nat} (h:Seg T K B (.nodes []) a b):a=b:=by
 cases h with
 | nil=>rfl
theorem seg_below {kids:List Nat} {a b:Nat} (h:Seg T K B (.nodes kids) a b) (h1:kids.length=1):Seg T K B (.node (kids.getD 0 0)) a b:=by
 match kids,h1 with
 | [k],_ =>
  obtain⟨c,h2,h3⟩:=seg_nodes_cons h
  rw [<-seg_nodes_nil h3]
  exact h2
theorem seg_seq {i a b:Nat} (h:Seg T K B (.node i) a b) (hk:(T.getD i default).kind=7):Seg T K B (.nodes (T.getD i default).kids) a b:=by
 cases h <;> first|exact (by assumption)|(exfalso;omega)
theorem seg_var {i a b:Nat} (h:Seg T K B (.node i) a b) (hk:(T.getD i default).kind=15):K[a]?=some (11,(T.getD i default).nd)∧Seg T K B (.nodes (T.getD i default).kids) (a+1) b:=by
 cases h <;> first|exact⟨(by assumption),(by assumption)⟩|(exfalso;omega)
theorem seg_chan {i a b:Nat} (h:Seg T K B (.node i) a b) (hk:(T.getD i default).kind=16):Seg T K B (.nodes (T.getD i default).kids) a b:=by
 cases h <;> first|exact (by assumption)|(exfalso;omega)
theorem step_of {i a b:Nat} (h:Seg T K B (.node i) a b) (hk:(T.getD i default).kind≠7∧(T.getD i default).kind≠15∧(T.getD i default).kind≠16):K[a]?=some (0,0):=by
 cases h with
 | skip _ h=>exact h
 | stop _ h _=>exact h
 | becomes _ h _ _=>exact h
 | out _ _ h _ _=>exact h
 | write _ _ h _ _=>exact h
 | read _ h _ _ _=>exact h
 | wait _ h _ _=>exact h
 | beside _ h _ _ _ _=>exact h
 | loop _ h _ _ _ _=>exact h
 | choice _ h _ _=>exact h
 | alt _ h _ _ _ _=>exact h
 | seq h _=>omega
 | var h _ _=>omega
 | chan h _=>omega
theorem TS.set_set (t:TS) (p:Nat) (y z:TP):(t.setPr p y).setPr p z=t.setPr p z:=by
 unfold TS.setPr
 simp
theorem TS.push_set (t:TS) {p:Nat} (hp:p<t.procs.length) (y:TP) (x:Nat×Nat):(t.setPr p y).push p x=t.setPr p { y with pile:=x :: y.pile }:=by
 unfold TS.push
 rw [TS.pr_self hp,TS.set_set]
structure InT (T:List PNode) (n:Nat):Prop where
 nd:∀ i,0≤(T.getD i default).nd∧(T.getD i default).nd<n
 cd:∀ i,0≤(T.getD i default).cd∧(T.getD i default).cd<n
 ex:∀ i,varsIn n (T.getD i default).expr
theorem sim_free (wf:WfT T) (h:CurK T K B s t p) {n:Nat} (hin:InT T n) (hvl:t.vars.length=n) (hpl:∀ kd∈(t.pr p).pile,kd.1<T.length) {t':TS} (hf:t.free1 T p=some t') (d:Int):∃ s',Goes K B steps d s d s'∧SimM T K B s' t':=by
 obtain⟨a,hh,ho,g⟩:=h.at_ (steps:=steps) d
 have hlt:=h.lt
 unfold TS.free1 at hf
 cases hp:(t.pr p).pile with
 | nil=>rw [hp] at hf;cases hf
 | cons x l =>
  obtain⟨i,e⟩:=x
  rw [hp] at hf hh
  have hi:i<T.length:=hpl (i,e) (by rw [hp];simp)
  dsimp only at hf
  have epop:t.pop p=t.setPr p { t.pr p with pile:=l }:=by unfold TS.pop;rw [hp];rfl
  by_cases h7:(T.getD i default).kind=7
  ·rw [if_pos h7] at hf
   have hseg:∃ b,Seg T K B (.nodes ((T.getD i default).kids.drop e)) a b∧Rep T K B l b:=by
    rcases hh with ⟨rfl,b,h1,h2⟩|⟨_,b,h1,h2⟩
    ·exact⟨b,by rw [List.drop_zero];exact seg_seq h1 h7,h2⟩
    ·exact⟨b,h1,h2⟩
   obtain⟨b,hs,hr⟩:=hseg
   by_cases hd:e<(T.getD i default).kids.length
   ·rw [if_pos hd] at hf
    injection hf with hf
    have et:t'=t.setPr p { t.pr p with pile:=((T.getD i default).kids.getD e 0,0) :: (i,e+1) :: l }:=by
     rw [<-hf]
     rw [epop,TS.push_set t hlt,TS.push_set t hlt]
    rw [List.drop_eq_getElem_cons hd] at hs
    obtain⟨c,h1,h2⟩:=seg_nodes_cons hs
    rw [et]
    refine⟨_,g,h.move a _ ho ?_ rfl rfl rfl h.told⟩
    rw [getD_lt _ _ _ hd]
    exact .node h1 (.seq h7 h2 hr)
   ·rw [if_neg hd] at hf
    injection hf with hf
    rw [List.drop_eq_nil_of_le (by omega)] at hs
    have:=seg_nodes_nil hs
    subst this
    rw [<-hf,epop]
    exact⟨_,g,h.move a _ ho hr rfl rfl rfl h.told⟩
  ·rw [if_neg h7] at hf
   have hnode:∃ b,Seg T K B (.node i) a b∧Rep T K B l b:=by
    rcases hh with ⟨_,b,h1,h2⟩|⟨hk,_⟩
    ·exact⟨b,h1,h2⟩
    ·exact absurd hk h7
   obtain⟨b,hs,hr⟩:=hnode
   by_cases h15:(T.getD i default).kind=15
   ·rw [if_pos h15] at hf
    injection hf with hf
    obtain⟨hK,hs⟩:=seg_var hs h15
    have hb:=seg_below hs (wf.one i hi (by omega))
    have hnd:=hin.nd i
    obtain⟨v,hv⟩:∃ v:Nat,(T.getD i default).nd=v:=⟨(T.getD i default).nd.toNat,by omega⟩
    have hvl':v<s.vars.length:=by rw [h.sim.vars,hvl];omega
    have g2:=goes_one (B:=B) (steps:=steps) (d:=d) (x:=s.pr p) (st:=[]) h.curS h.ltS h.lens (by simp) hK (by omega) (by omega) (by omega) (by
     rw [okX_of h.lens (by simp) h.ltS,if_neg (by omega),if_neg (by omega),if_pos rfl,hv]
     exact inB_of hvl')
    rw [if_neg (by omega),hv] at g2
    have e11:(s.cfg p (s.pr p) (a+1) []).exec B p 11 (v:Int)={ s.cfg p (s.pr p) (a+1) [] with vars:=s.vars.set v 0 }:=rfl
    rw [e11] at g2
    refine⟨_,g.trans g2,?_⟩
    have m:=h.move (a+1) { t.pr p with pile:=((T.getD i default).kids.getD 0 0,0) :: l } ho (.node hb hr) rfl rfl rfl h.told
    have m2:=m.setVars (s.vars.set v 0)
    have et:t'={ t.setPr p { t.pr p with pile:=((T.getD i default).kids.getD 0 0,0) :: l } with vars:=s.vars.set v 0 }:=by
     have e1:({ t with vars:=t.vars.set (T.getD i default).nd.toNat 0 }:TS).pop p=({ t with vars:=t.vars.set v 0 }:TS).setPr p { t.pr p with pile:=l }:=by
      rw [hv,Int.toNat_natCast]
      show TS.setPr _ p { t.pr p with pile:=(t.pr p).pile.tail }=_
      rw [hp]
      rfl
     rw [<-hf,e1,h.sim.vars]
     unfold TS.down
     rw [TS.push_set { t with vars:=t.vars.set v 0 } hlt]
     rfl
    rw [et]
    exact m2
   ·rw [if_neg h15] at hf
    by_cases h16:(T.getD i default).kind=16
    ·rw [if_pos h16] at hf
     injection hf with hf
     have hb:=seg_below (seg_chan hs h16) (wf.one i hi (by omega))
     have et:t'=t.setPr p { t.pr p with pile:=((T.getD i default).kids.getD 0 0,0) :: l }:=by
      rw [<-hf]
      unfold TS.down
      rw [epop,TS.push_set t hlt]
     rw [et]
     exact⟨_,g,h.move a _ ho (.node hb hr) rfl rfl rfl h.told⟩
    ·rw [if_neg h16] at hf
     cases hf
end
end Go.Proofs.YtnhidaamfnjdjaaGreatDoor
namespace Go.Proofs.YtnhidaamfnjdjaaGreatDoor
open Go.RowKit Go.Maps
section
variable {T : List PNode} {K : List (Int × Int)} {B : List (Int × Int × Int)} {steps : Int} {s : MS} {t : TS} {p : Nat}
theorem cfg_pr_ne {q:Nat} (h:q≠p) (x:PPr) (a:Nat) (st:List Int):(s.cfg p x a st).pr q=s.pr q:=by
 unfold MS.pr MS.cfg
 simp only [List.getD,List.getElem?_set,if_neg (fun e:p=q=>h e.symm)]
theorem cfg_len (x:PPr) (a:Nat) (st:List Int):(s.cfg p x a st).procs.length=s.procs.length:=by simp [MS.cfg]
theorem SimE.dead {E:Nat->Prop} (h:SimE T K B (fun i=>i=p∨E i) s t) (h1:(s.pr p).above=(t.pr p).above) (h2:(s.pr p).urg=(t.pr p).urg) (h3:(s.pr p).below=(t.pr p).below) (h4:(s.pr p).told=0) (h5:(t.pr p).told=0) (hl:¬ t.live p):SimE T K B E s t :=
 h.close ⟨h1,h2,h3,h4.trans h5.symm,fun x=>absurd x hl,fun x=>by rw [h5] at x;cases x⟩
theorem SimE.below {E:Nat->Prop} (h:SimE T K B E s t) {q:Nat} (hE:¬ E q) (hq:q<t.procs.length) (v:Int):SimE T K B E (s.setPr q { s.pr q with below:=v }) (t.setPr q { t.pr q with below:=v }):=by
 have hqs:q<s.procs.length:=by rw [h.len];exact hq
 have k:=h.pr q hq hE
 refine ((h.open (E':=fun i=>i=q∨E i) (fun i x=>.inr x)).setPr (p:=q) (.inl rfl) _ _).close ?_
 rw [MS.pr_self hqs,TS.pr_self hq]
 refine⟨k.above,k.urg,rfl,k.told,fun hl ht=>k.at_ ?_ ht,fun ht=>?_⟩
 ·rcases hl with a|a|a|a
  ·exact .inl a
  ·exact .inr (.inl a)
  ·exact .inr (.inr (.inl a))
  ·rw [TS.pr_self hq] at a;exact .inr (.inr (.inr a))
 ·exact k.opn ht
theorem TS.endP_some (t:TS) {p q:Nat} (hp:p<t.procs.length) (h:(t.pr p).above=some q) (hqp:q≠p) (hq:q<t.procs.length):t.endP T p=(if (t.pr q).below - 1=0 then ((t.setPr p { t.pr p with fin:=true }).leave.setPr q { t.pr q with below:=(t.pr q).below - 1 }).tell T q 0 0 else (t.setPr p { t.pr p with fin:=true }).leave.setPr q { t.pr q with below:=(t.pr q).below - 1 }):=by
 unfold TS.endP
 generalize hy:({ t.pr p with fin:=true }:TP)=y
 have hya:y.above=some q:=by rw [<-hy];exact h
 dsimp only
 rw [TS.pr_self hp,hya]
 dsimp only
 rw [TS.pr_ne t hqp,TS.pr_self (t:=(t.setPr p y).leave) (by show q<(t.setPr p y).procs.length;rw [TS.len_set];exact hq)]
theorem TS.endP_none (t:TS) {p:Nat} (hp:p<t.procs.length) (h:(t.pr p).above=none):t.endP T p={ (t.setPr p { t.pr p with fin:=true }).leave with ended:=true }:=by
 unfold TS.endP
 generalize hy:({ t.pr p with fin:=true }:TP)=y
 have hya:y.above=none:=by rw [<-hy];exact h
 dsimp only
 rw [TS.pr_self hp,hya]
theorem sim_end (h:CurK T K B s t p) (hpile:(t.pr p).pile=[]) (hup:∀ q,(t.pr p).above=some q->q≠p∧q<t.procs.length∧0<(t.pr q).below∧(t.pr q).below<900000000000∧(t.pr q).told=1) (d:Int):∃ s',Goes K B steps d s d s'∧SimM T K B s' (t.endP T p):=by
 obtain⟨a,hh,ho,g⟩:=h.at_ (steps:=steps) d
 rw [hpile] at hh
 have hK:K[a]?=some (24,0):=hh
 have k:=h.sim.pr p h.lt (fun x=>x)
 have hpS:=h.ltS
 have hab:((s.cfg p (s.pr p) (a+1) []).pr p).above=(t.pr p).above:=by rw [cfg_pr hpS];exact k.above
 have ap:=h.sim.apart p (s.pr p) (a+1) { t.pr p with fin:=true }
 have apl:=ap.leave
 have hprt:(t.setPr p { t.pr p with fin:=true }).pr p={ t.pr p with fin:=true }:=TS.pr_self h.lt _
 have hnl:∀ t1:TS,t1.cur=none->t1.urg=t.urg->t1.oth=t.oth->(t1.pr p).told=0->¬ t1.live p:=by
  intro t1 h1 h2 h3 h4 hl
  rcases hl with x|x|x|x
  ·rw [h1] at x;cases x
  ·rw [h2] at x;exact h.out.1 x
  ·rw [h3] at x;exact h.out.2 x
  ·exact x h4
 cases hup0:(t.pr p).above with
 | none =>
  have g2:=goes_one (B:=B) (steps:=steps) (d:=d) (x:=s.pr p) (st:=[]) h.curS hpS h.lens (by simp) hK (by omega) (by omega) (by omega) (okX_core (c:=match ((s.cfg p (s.pr p) (a+1) []).pr p).above with|none=>true|some q=>Nat.blt q (s.cfg p (s.pr p) (a+1) []).procs.length&&decide (0<((s.cfg p (s.pr p) (a+1) []).pr q).below)&&decide (((s.cfg p (s.pr p) (a+1) []).pr q).below<900000000000)&&(if ((s.cfg p (s.pr p) (a+1) []).pr q).below=1 then Nat.beq ((s.cfg p (s.pr p) (a+1) []).pr q).told 1 else true)) h.lens (by simp) hpS (fun e=>by unfold okX;rw [e,Bool.true_and];rfl) (by rw [hab,hup0]))
  rw [if_neg (by omega)] at g2
  have e24:(s.cfg p (s.pr p) (a+1) []).exec B p 24 0={ (s.cfg p (s.pr p) (a+1) []).leave with ended:=true }:=by
   show (match ((s.cfg p (s.pr p) (a+1) []).pr p).above with
    | none=>{ (s.cfg p (s.pr p) (a+1) []).leave with ended:=true }
    | some q =>
     let s1:=(s.cfg p (s.pr p) (a+1) []).leave.setPr q { (s.cfg p (s.pr p) (a+1) []).pr q with below:=((s.cfg p (s.pr p) (a+1) []).pr q).below - 1 }
     if (s1.pr q).below=0 then s1.tell q 0 0 else s1)=_
   rw [hab,hup0]
  rw [e24] at g2
  refine⟨_,g.trans g2,?_⟩
  have et:=TS.endP_none (T:=T) t h.lt hup0
  rw [et]
  have q1:SimE T K B (fun i=>i=p∨False) { (s.cfg p (s.pr p) (a+1) []).leave with ended:=true } { (t.setPr p { t.pr p with fin:=true }).leave with ended:=true }:={ apl with ended:=rfl,pr:=fun i hi hn=>(apl.pr i hi hn).weak (fun x=>x) }
  have eS:(MS.pr { (s.cfg p (s.pr p) (a+1) []).leave with ended:=true } p)={ s.pr p with at_:=((a+1:Nat):Int) }:=cfg_pr hpS (s.pr p) (a+1) []
  have eT:(TS.pr { (t.setPr p { t.pr p with fin:=true }).leave with ended:=true } p)={ t.pr p with fin:=true }:=hprt
  refine q1.dead ?_ ?_ ?_ ?_ ?_ (hnl _ rfl rfl rfl (by rw [eT];exact h.told))
  ·rw [eS,eT];exact k.above
  ·rw [eS,eT];exact k.urg
  ·rw [eS,eT];exact k.below
  ·rw [eS];show (s.pr p).told=0;rw [k.told];exact h.told
  ·rw [eT];exact h.told
 | some q =>
  obtain⟨hqp,hq,hb0,hb1,htq⟩:=hup q hup0
  have kq:=h.sim.pr q hq (fun x=>x)
  have hqS:q<s.procs.length:=by rw [h.sim.len];exact hq
  have eqS:(s.cfg p (s.pr p) (a+1) []).pr q=s.pr q:=cfg_pr_ne hqp _ _ _
  have hbS:(s.pr q).below=(t.pr q).below:=kq.below
  have htS:(s.pr q).told=1:=by rw [kq.told];exact htq
  have g2:=goes_one (B:=B) (steps:=steps) (d:=d) (x:=s.pr p) (st:=[]) h.curS hpS h.lens (by simp) hK (by omega) (by omega) (by omega) (okX_core (c:=match ((s.cfg p (s.pr p) (a+1) []).pr p).above with|none=>true|some q=>Nat.blt q (s.cfg p (s.pr p) (a+1) []).procs.length&&decide (0<((s.cfg p (s.pr p) (a+1) []).pr q).below)&&decide (((s.cfg p (s.pr p) (a+1) []).pr q).below<900000000000)&&(if ((s.cfg p (s.pr p) (a+1) []).pr q).below=1 then Nat.beq ((s.cfg p (s.pr p) (a+1) []).pr q).told 1 else true)) h.lens (by simp) hpS (fun e=>by unfold okX;rw [e,Bool.true_and];rfl) (by
    rw [hab,hup0]
    dsimp only
    rw [eqS,cfg_len,hbS,htS]
    simp only [Bool.and_eq_true,Nat.blt_eq,decide_eq_true_eq]
    refine⟨⟨⟨hqS,hb0⟩,hb1⟩,?_⟩
    split <;> rfl))
  rw [if_neg (by omega)] at g2
  have e24:(s.cfg p (s.pr p) (a+1) []).exec B p 24 0=(if (t.pr q).below - 1=0 then ((s.cfg p (s.pr p) (a+1) []).leave.setPr q { s.pr q with below:=(t.pr q).below - 1 }).tell q 0 0 else (s.cfg p (s.pr p) (a+1) []).leave.setPr q { s.pr q with below:=(t.pr q).below - 1 }):=by
   show (match ((s.cfg p (s.pr p) (a+1) []).pr p).above with
    | none=>{ (s.cfg p (s.pr p) (a+1) []).leave with ended:=true }
    | some q =>
     let s1:=(s.cfg p (s.pr p) (a+1) []).leave.setPr q { (s.cfg p (s.pr p) (a+1) []).pr q with below:=((s.cfg p (s.pr p) (a+1) []).pr q).below - 1 }
     if (s1.pr q).below=0 then s1.tell q 0 0 else s1)=_
   rw [hab,hup0]
   dsimp only
   rw [eqS,hbS,MS.pr_self (s:=(s.cfg p (s.pr p) (a+1) []).leave) (by show q<(s.cfg p (s.pr p) (a+1) []).procs.length;rw [cfg_len];exact hqS)]
  rw [e24] at g2
  refine⟨_,g.trans g2,?_⟩
  have htl:q<(t.setPr p { t.pr p with fin:=true }).leave.procs.length:=by show q<(t.setPr p _).procs.length;rw [TS.len_set];exact hq
  have etq:(t.setPr p { t.pr p with fin:=true }).pr q=t.pr q:=TS.pr_ne _ hqp _
  have et:=TS.endP_some (T:=T) t h.lt hup0 hqp hq
  rw [et]
  have q1:=apl.below (q:=q) (fun x=>x.elim hqp (fun x=>x)) htl ((t.pr q).below - 1)
  have eqS2:(s.cfg p (s.pr p) (a+1) []).leave.pr q=s.pr q:=eqS
  have etq2:(t.setPr p { t.pr p with fin:=true }).leave.pr q=t.pr q:=etq
  rw [eqS2,etq2] at q1
  have hpq:p≠q:=fun e=>hqp e.symm
  have eS:((s.cfg p (s.pr p) (a+1) []).leave.setPr q { s.pr q with below:=(t.pr q).below - 1 }).pr p={ s.pr p with at_:=((a+1:Nat):Int) }:=by rw [MS.pr_ne _ hpq];exact cfg_pr hpS (s.pr p) (a+1) []
  have eT:((t.setPr p { t.pr p with fin:=true }).leave.setPr q { t.pr q with below:=(t.pr q).below - 1 }).pr p={ t.pr p with fin:=true }:=by rw [TS.pr_ne _ hpq];exact hprt
  have q2:SimM T K B ((s.cfg p (s.pr p) (a+1) []).leave.setPr q { s.pr q with below:=(t.pr q).below - 1 }) ((t.setPr p { t.pr p with fin:=true }).leave.setPr q { t.pr q with below:=(t.pr q).below - 1 }):=by
   refine q1.dead ?_ ?_ ?_ ?_ ?_ (hnl _ rfl rfl rfl (by rw [eT];exact h.told))
   ·rw [eS,eT];exact k.above
   ·rw [eS,eT];exact k.urg
   ·rw [eS,eT];exact k.below
   ·rw [eS];show (s.pr p).told=0;rw [k.told];exact h.told
   ·rw [eT];exact h.told
  split
  ·exact q2.tell1 (fun x=>x) (by rw [TS.len_set];exact htl) (by rw [TS.pr_self htl];exact htq) 0 0
  ·exact q2
theorem step_begin (h:CurK T K B s t p) {i e:Nat} {l:List (Nat×Nat)} (hpile:(t.pr p).pile=(i,e) :: l) (hk:(T.getD i default).kind≠7∧(T.getD i default).kind≠15∧(T.getD i default).kind≠16) (d:Int) (hd:d<steps) :
  ∃ a b,Seg T K B (.node i) a b∧Rep T K B l b∧(s.pr p).opn=[]∧Goes K B steps d s (d+1) (s.cfg p (s.pr p) (a+1) [])∧t.pop p=t.setPr p { t.pr p with pile:=l }:=by
 obtain⟨a,hh,ho,g⟩:=h.at_ (steps:=steps) d
 rw [hpile] at hh
 have hnode:∃ b,Seg T K B (.node i) a b∧Rep T K B l b:=by
  rcases hh with ⟨_,b,h1,h2⟩|⟨hk7,_⟩
  ·exact⟨b,h1,h2⟩
  ·exact absurd hk7 hk.1
 obtain⟨b,hs,hr⟩:=hnode
 have g2:=goes_one (B:=B) (steps:=steps) (d:=d) (x:=s.pr p) (st:=[]) h.curS h.ltS h.lens (by simp) (step_of hs hk) (by omega) (by omega) (by omega) (okX_plain h.lens (by simp) h.ltS (by omega))
 rw [if_pos rfl] at g2
 exact⟨a,b,hs,hr,ho,g.trans g2,by unfold TS.pop;rw [hpile];rfl⟩
theorem CurK.gone (h:CurK T K B s t p) (a:Nat) (y:TP) (h1:y.above=(t.pr p).above) (h2:y.urg=(t.pr p).urg) (h3:y.below=(t.pr p).below) (h4:y.told=0):SimM T K B (s.cfg p (s.pr p) a []).leave (t.setPr p y).leave∧∀ st:List Int,st.length≤1000000->SimM T K B (s.cfg p (s.pr p) a st).fault (t.setPr p y).fault:=by
 have k:=h.sim.pr p h.lt (fun x=>x)
 have ap:=h.sim.apart p (s.pr p) a y
 have hnl:∀ t1:TS,t1.cur=none->t1.urg=t.urg->t1.oth=t.oth->(t1.pr p).told=0->¬ t1.live p:=by
  intro t1 h1 h2 h3 h4 hl
  rcases hl with x|x|x|x
  ·rw [h1] at x;cases x
  ·rw [h2] at x;exact h.out.1 x
  ·rw [h3] at x;exact h.out.2 x
  ·exact x h4
 have eS:(s.cfg p (s.pr p) a []).pr p={ s.pr p with at_:=(a:Int) }:=cfg_pr h.ltS (s.pr p) a []
 have eT:(t.setPr p y).pr p=y:=TS.pr_self h.lt _
 have key:∀ (s1:MS) (t1:TS),SimE T K B (fun i=>i=p∨False) s1 t1->s1.pr p={ s.pr p with at_:=(a:Int) }->t1.pr p=y->t1.cur=none->t1.urg=t.urg->t1.oth=t.oth->SimM T K B s1 t1:=by
  intro s1 t1 q e1 e2 c1 c2 c3
  refine q.dead ?_ ?_ ?_ ?_ ?_ (hnl _ c1 c2 c3 (by rw [e2];exact h4))
  ·rw [e1,e2];exact k.above.trans h1.symm
  ·rw [e1,e2];exact k.urg.trans h2.symm
  ·rw [e1,e2];exact k.below.trans h3.symm
  ·rw [e1];show (s.pr p).told=0;rw [k.told];exact h.told
  ·rw [e2];exact h4
 refine⟨key _ _ ap.leave eS eT rfl rfl rfl,fun st hst=>?_⟩
 have q:=key _ _ ap.fault eS eT rfl rfl rfl
 exact q.restack rfl st hst
end
end Go.Proofs.YtnhidaamfnjdjaaGreatDoor
