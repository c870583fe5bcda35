import Derived.Test.YtnhidaamfnjdjaaGreatDoorZTmW
import Derived.Test.YtnhidaamfnjdjaaGreatDoorYRoH
import Derived.Test.YtnhidaamfnjdjaaGreatDoorZItmA
import Derived.Test.YtnhidaamfnjdjaaGreatDoorYTnC
namespace Go.Proofs.YtnhidaamfnjdjaaGreatDoor
open Go.RowKit Go.Maps
section
variable {T : List PNode} {K : List (Int × Int)} {B : List (Int × Int × Int)} {steps : Int} {n F : Nat}
def EndsD (T:List PNode) (K:List (Int×Int)) (B:List (Int×Int×Int)) (steps:Int) (n F:Nat) (P:Int->TS->Prop) (d:Int) (N:Nat) (s:MS):Prop :=
 ∃ (d':Int) (s':MS) (t':TS) (N':Nat),(∃ f,runC false K B steps f d s=some (d',s'))∧Both T K B n N' F s' t'∧P d' t'∧d≤d'∧(d'≤steps∨d'=d)∧(N':Int)≤N+(d' - d)
theorem EndsD.goes {P:Int->TS->Prop} {d d1:Int} {N N1:Nat} {s s1:MS} (g:Goes K B steps d s d1 s1) (hd:d≤d1) (hs:d1=d∨d1≤steps) (hN:(N1:Int)≤N+(d1 - d)) (h:EndsD T K B steps n F P d1 N1 s1):EndsD T K B steps n F P d N s:=by
 obtain⟨d',s',t',N',h1,h2,h3,h4,h5,h6⟩:=h
 exact⟨d',s',t',N',g _ h1,h2,h3,by omega,by omega,by omega⟩
def TKeptD (T:List PNode) (n:Nat) (steps:Int) (P:Int->TS->Prop):Prop:=∀ (d:Int) (t:TS) (st:Nat->St),TInv T n st t->P d t->match TS.turn T steps d t with | .inl r=>P r.1 r.2 | .inr r=>P r.1 r.2
theorem run_curD (ok:TmOk T K n) (hF:F≤17600000000000) {P:Int->TS->Prop} (hP:TKeptD T n steps P) (k u:Nat)
  (ihk:∀ (d:Int) (s:MS) (t:TS) (N:Nat),(steps - d).toNat<k->Both T K B n N F s t->P d t->(N:Int)+(steps - d)≤400000000->N≤400000000->EndsD T K B steps n F P d N s)
  (ihu:∀ (d:Int) (s:MS) (t:TS) (N:Nat),(steps - d).toNat=k->(fins t).count false<u->Both T K B n N F s t->P d t->(N:Int)+(steps - d)≤400000000->N≤400000000->EndsD T K B steps n F P d N s) :
  ∀ (m:Nat) (d:Int) (s:MS) (t:TS) (N p:Nat),(steps - d).toNat=k->(fins t).count false=u->t.cur=some p->wP T (t.pr p).pile=m->Both T K B n N F s t->P d t->(N:Int)+(steps - d)≤400000000->N≤400000000->EndsD T K B steps n F P d N s:=by
 intro m
 induction m using Nat.strongRecOn with
 | _ m ihm =>
  intro d s t N p hk hu hc hm hb hp hN hN2
  obtain⟨⟨st,inv⟩,sim,bd,flt⟩:=hb
  have tk:=sim_turn (steps:=steps) ok inv sim bd flt hN2 hF d
  have pk:=hP d t st inv hp
  unfold TS.turn at tk pk
  rw [hc] at tk pk
  dsimp only at tk pk
  cases hf:t.free1 T p with
  | some t1 =>
   rw [hf] at tk pk
   dsimp only at tk pk
   obtain⟨⟨s1,g,q⟩,⟨st1,i1⟩,f1,hnb⟩:=tk
   obtain⟨e1,e2⟩:=free_less ok.wf inv hc hf
   have hc1:=(inv.free1 ok.wf hc hf).2
   have nb:NBd N F t1:=by
    rcases hnb with ⟨_,x⟩|⟨x,_,_⟩
    ·exact x
    ·exact absurd x (by show ¬ d=d+1;omega)
   exact EndsD.goes g (Int.le_refl _) (.inl rfl) (by omega) (ihm _ (by rw [<-hm];exact e2) d s1 t1 N p hk (by rw [e1];exact hu) hc1 rfl ⟨⟨st1,i1⟩,q,nb,f1⟩ pk hN hN2)
  | none =>
   rw [hf] at tk pk
   dsimp only at tk pk
   cases hpile:(t.pr p).pile with
   | nil =>
    rw [hpile] at tk pk
    dsimp only at tk pk
    obtain⟨⟨s1,g,q⟩,i1,f1,hnb⟩:=tk
    have nb:NBd N F (t.endP T p):=by
     rcases hnb with ⟨_,x⟩|⟨x,_,_⟩
     ·exact x
     ·exact absurd x (by show ¬ d=d+1;omega)
    have hl:=end_fins inv hc
    exact EndsD.goes g (Int.le_refl _) (.inl rfl) (by omega) (ihu d s1 (t.endP T p) N hk (by omega) ⟨i1,q,nb,f1⟩ pk hN hN2)
   | cons x l =>
    rw [hpile] at tk pk
    obtain⟨i,e⟩:=x
    dsimp only at tk pk
    by_cases hd:steps≤d
    ·rw [if_pos hd] at tk pk
     obtain⟨⟨s1,hr,q⟩,i1,f1,_,nb⟩:=tk
     exact⟨d,s1,t,N,hr,⟨i1,q,nb,f1⟩,pk,Int.le_refl _,.inr rfl,by omega⟩
    ·rw [if_neg hd] at tk pk
     obtain⟨⟨s1,g,q⟩,i1,f1,hnb⟩:=tk
     have nb:NBd (N+1) F (t.stepN T p i):=by
      rcases hnb with ⟨x,_⟩|⟨_,_,x⟩
      ·exact absurd x (by show ¬ d+1=d;omega)
      ·exact x
     refine EndsD.goes (N1:=N+1) g (by show d≤d+1;omega) (.inr (by show d+1≤steps;omega)) (by show ((N+1:Nat):Int)≤N+(d+1 - d);omega) (ihk (d+1) s1 _ (N+1) (by omega) ⟨i1,q,nb,f1⟩ pk ?_ ?_)
     ·push_cast;omega
     ·omega
theorem run_allD (ok:TmOk T K n) (hF:F≤17600000000000) {P:Int->TS->Prop} (hP:TKeptD T n steps P):∀ (k u:Nat) (d:Int) (s:MS) (t:TS) (N:Nat),(steps - d).toNat=k->(fins t).count false=u->Both T K B n N F s t->P d t->(N:Int)+(steps - d)≤400000000->N≤400000000->EndsD T K B steps n F P d N s:=by
 intro k
 induction k using Nat.strongRecOn with
 | _ k ihk =>
  intro u
  induction u using Nat.strongRecOn with
  | _ u ihu =>
   intro d s t N hk hu hb hp hN hN2
   have cur:=run_curD ok hF hP k u (fun d s t N h hb hp h1 h2=>ihk _ h _ d s t N rfl rfl hb hp h1 h2) (fun d s t N h h' hb hp h1 h2=>ihu _ h' d s t N h rfl hb hp h1 h2)
   cases hc:t.cur with
   | some p=>exact cur _ d s t N p hk hu hc rfl hb hp hN hN2
   | none =>
    obtain⟨⟨st,inv⟩,sim,bd,flt⟩:=hb
    have tk:=sim_turn (steps:=steps) ok inv sim bd flt hN2 hF d
    have pk:=hP d t st inv hp
    unfold TS.turn at tk pk
    rw [hc] at tk pk
    dsimp only at tk pk
    by_cases hd:d<steps
    ·rw [if_pos hd] at tk pk
     cases hm:(t.makeCurrent T).cur with
     | none =>
      rw [hm] at tk pk
      obtain⟨⟨s1,hr,q⟩,i1,f1,_,nb⟩:=tk
      exact⟨d,s1,_,N,hr,⟨i1,q,nb,f1⟩,pk,Int.le_refl _,.inr rfl,by omega⟩
     | some p =>
      rw [hm] at tk pk
      obtain⟨⟨s1,g,q⟩,i1,f1,hnb⟩:=tk
      have nb:NBd N F (t.makeCurrent T):=by
       rcases hnb with ⟨_,x⟩|⟨x,_,_⟩
       ·exact x
       ·exact absurd x (by show ¬ d=d+1;omega)
      exact EndsD.goes g (Int.le_refl _) (.inl rfl) (by omega) (cur _ d s1 _ N p hk (by rw [make_fins inv];exact hu) hm rfl ⟨i1,q,nb,f1⟩ pk hN hN2)
    ·rw [if_neg hd] at tk pk
     obtain⟨⟨s1,hr,q⟩,i1,f1,_,nb⟩:=tk
     exact⟨d,s1,t,N,hr,⟨i1,q,nb,f1⟩,pk,Int.le_refl _,.inr rfl,by omega⟩
end
end Go.Proofs.YtnhidaamfnjdjaaGreatDoor
namespace Go.Proofs.YtnhidaamfnjdjaaGreatDoor
open Go.RowKit Go.Maps
def rootS (n i:Nat) (l:List Int):TS:=⟨List.replicate (2 * n+2) 0,(List.replicate (2 * n+2) default).set 1 ⟨l,none,none⟩,some 0,[],[],[],0,0,[],false,false,[⟨[(i,0)],none,false,0,[],0,false⟩]⟩
def parT (n:Nat) (l:List Int):TS:=⟨List.replicate (2 * n+2) 0,(List.replicate (2 * n+2) default).set 1 ⟨l,none,none⟩,none,[],(List.range n).map (·+1),[],0,0,[],false,false,⟨[],none,false,n,[],1,false⟩ :: (List.range n).map fun j=>⟨[(bR n j,0)],some 0,false,0,[],0,false⟩⟩
def parA (l:List Int):RA:=⟨fun _=>0,fun _=>false,fun _=>0,fun j=>if j=0 then l else []⟩
theorem par_str (l:List Int):∀ j,(parA l).str j=l.map fun y=>finR y j
 | 0=>by
  rw [str_at,hold_no (by show (0:Nat)≠5;decide) (fun h=>by cases h)]
  show (([]++l)++[]).map _=_
  simp [finR]
 | j+1=>by
  rw [str_at,hold_no (by show (0:Nat)≠5;decide) (fun h=>by cases h)]
  show (([]++[])++(parA l).str j).map _=_
  rw [par_str l j]
  have e:(((j+1:Nat):Int)+1)=(j:Int)+2:=by omega
  rw [e]
  simp [finR]
theorem par_all (l:List Int):∀ n,(parA l).all n=n * (3 * l.length+2)
 | 0=>by simp [RA.all]
 | n+1=>by
  show (parA l).all n+(parA l).rem n=_
  rw [par_all l n,rem_is,par_str,List.length_map]
  have:offR ((parA l).f n)=2:=rfl
  rw [this,Nat.add_mul,Nat.one_mul]
theorem par_inv (n:Nat) (l:List Int):RInv n (parT n l) (parA l) where
 len:=by simp [parT]
 vl:=by simp [parT]
 cl:=by simp [parT]
 tp:=fun j hj=>by
  show (_ :: (List.range n).map _).getD (j+1) default=_
  rw [List.getD,List.getElem?_cons_succ,List.getElem?_map,List.getElem?_range hj]
  rfl
 ch:=fun j hj=>by
  show ((List.replicate (2 * n+2) (default:PCh)).set 1 ⟨l,none,none⟩).getD (cR j) default=_
  rw [List.getD,List.getElem?_set]
  by_cases e:j=0
  ·subst e
   rw [if_pos (show 1=cR 0 from rfl),if_pos (by simp)]
   rfl
  ·have hc:cR j=2+j:=by unfold cR;rw [if_neg e]
   rw [hc,if_neg (by omega),List.getElem?_replicate]
   have:(parA l).ch j=⟨[],none,none⟩:=by
    unfold RA.ch
    have hq:(parA l).q j=[]:=if_neg e
    rw [hq]
    cases j with
    | zero=>exact absurd rfl e
    | succ i=>rfl
   rw [this]
   split <;> rfl
 var:=fun j _ h=>by cases h
 f6:=fun _ _=>Nat.zero_le _
 wf:=fun _ _ h=>by cases h
 q0:=fun _ _ h=>by cases h
 q1:=fun j _=>by
  have:(parA l).xw j=false:=rfl
  rw [this,if_neg (by decide)]
  show (if j+1=0 then l else [])=[]
  exact if_neg (by omega)
 cur:=fun p h=>by cases h
 oth:=fun p h=>by
  obtain⟨j,hj,rfl⟩:=List.mem_map.1 h
  exact⟨j,List.mem_range.1 hj,rfl,rfl⟩
 rdy:=fun j hj _=>.inr (List.mem_map.2 ⟨j,List.mem_range.2 hj,rfl⟩)
 nd:=by
  show ((List.range n).map (·+1)).Nodup
  rw [List.nodup_iff_pairwise_ne,List.pairwise_map]
  exact (List.nodup_iff_pairwise_ne.1 List.nodup_range).imp (fun h e=>h (by omega))
 calm:=⟨rfl,rfl,rfl,rfl,rfl⟩
structure HeadT (T:List PNode) (n:Nat):Prop where
 chan:∀ i,1≤i->i<n->(T.getD i default).kind=16∧(T.getD i default).kids=[i+1]
 par:(T.getD n default).kind=8∧∀ l,TS.stepN T (rootS n n l) 0 n=parT n l
def RP (n:Nat) (Φ:Int) (G:List Int) (d:Int) (t:TS):Prop :=
 (∃ i l,1≤i∧i≤n∧t=rootS n i l∧(G=l.map fun y=>finR y (n - 1))∧Φ=d+1+((n * (3 * l.length+2):Nat):Int))∨∃ a,RInv n t a∧t.out++a.str (n - 1)=G∧(a.all n:Int)+d=Φ
section
variable {T : List PNode} {n : Nat} {Φ : Int} {G : List Int} {steps d : Int} {t : TS}
theorem RP.kept (rt:RowT T n) (hd:HeadT T n) (h0:0<n) (m:Nat):TKeptD T m steps (RP n Φ G):=by
 intro d t st _ h
 rcases h with ⟨i,l,i1,i2,rfl,hG,hΦ⟩|⟨a,inv,hG,hΦ⟩
 ·by_cases e:i=n
  ·subst e
   have hpl:((rootS i i l).pr 0).pile=(i,0) :: []:=rfl
   rw [turn_step (p:=0) rfl hpl (free_none hpl (by rw [hd.par.1];decide) (by rw [hd.par.1];decide) (by rw [hd.par.1];decide))]
   by_cases hs:steps≤d
   ·rw [if_pos hs]
    exact .inl ⟨i,l,i1,i2,rfl,hG,hΦ⟩
   ·rw [if_neg hs,hd.par.2 l]
    refine .inr ⟨parA l,par_inv i l,?_,?_⟩
    ·rw [par_str,hG];rfl
    ·rw [par_all,hΦ]
     omega
  ·obtain⟨c1,c2⟩:=hd.chan i i1 (by omega)
   have hf:TS.free1 T (rootS n i l) 0=some (rootS n (i+1) l):=by
    have hpl:((rootS n i l).pr 0).pile=(i,0) :: []:=rfl
    unfold TS.free1
    rw [hpl]
    dsimp only
    rw [if_neg (by rw [c1];decide),if_neg (by rw [c1];decide),if_pos c1]
    unfold TS.down
    rw [c2]
    rfl
   rw [turn_free (p:=0) rfl hf]
   exact .inl ⟨i+1,l,by omega,by omega,rfl,hG,hΦ⟩
 ·have:=row_turn (steps:=steps) (d:=d) rt inv
  cases ht:TS.turn T steps d t with
  | inl r =>
   rw [ht] at this
   obtain⟨a',i',h1,h2,h3⟩:=this
   exact .inr ⟨a',i',by rw [h1];exact hG,by omega⟩
  | inr r =>
   rw [ht] at this
   obtain⟨h1,h2,h3⟩:=this
   refine .inr ⟨a,by rw [h2];exact inv,by rw [h2];exact hG,by rw [h1];exact hΦ⟩
theorem RP.stands (h0:0<n) (h:RP n Φ G d t):(t.stands=1∧d<Φ)∨(t.stands=3∧t.out=G):=by
 rcases h with ⟨i,l,i1,i2,rfl,hG,hΦ⟩|⟨a,inv,hG,hΦ⟩
 ·refine .inl ⟨rfl,?_⟩
  omega
 ·by_cases hq:t.cur=none∧t.oth=[]
  ·obtain⟨h1,h2⟩:=inv.still h0 hq.1 hq.2
   rw [h1,List.append_nil] at hG
   exact .inr ⟨h2,hG⟩
  ·left
   obtain⟨c1,c2,c3,c4,c5⟩:=inv.calm
   have hs:t.stands=1:=by
    unfold TS.stands
    rw [c3,c4,if_neg (by decide),if_neg (by decide),if_pos]
    by_cases x:t.cur=none
    ·right;right;left
     exact fun y=>hq ⟨x,y⟩
    ·exact .inl x
   refine⟨hs,?_⟩
   have pos:0<a.all n:=inv.ahead hq
   omega
theorem RP.out (h:RP n Φ G 0 t):∃ G',G=t.out++G'∧RP n Φ G' 0 { t with out:=[] }:=by
 rcases h with ⟨i,l,i1,i2,rfl,hG,hΦ⟩|⟨a,inv,hG,hΦ⟩
 ·exact⟨G,rfl,.inl ⟨i,l,i1,i2,rfl,hG,hΦ⟩⟩
 ·exact⟨_,hG.symm,.inr ⟨a,inv.outs [],rfl,hΦ⟩⟩
theorem RP.feed (rt:RowT T n) (h0:0<n) (h:RP n Φ G 0 t) (y:Int):RP n (Φ+3 * n) (G++[finR y (n - 1)]) 0 (TS.feed T t y):=by
 rcases h with ⟨i,l,i1,i2,rfl,hG,hΦ⟩|⟨a,inv,hG,hΦ⟩
 ·refine .inl ⟨i,l++[y],i1,i2,?_,by rw [hG];simp,?_⟩
  ·unfold TS.feed TS.send
   have hch:(rootS n i l).ch 1=⟨l,none,none⟩:=by
    show ((List.replicate (2 * n+2) (default:PCh)).set 1 ⟨l,none,none⟩).getD 1 default=_
    rw [List.getD,List.getElem?_set,if_pos rfl,if_pos (by simp)]
    rfl
   rw [hch]
   dsimp only
   unfold TS.setCh rootS
   dsimp only
   rw [show ((1:Int)).toNat=1 from rfl,List.set_set]
  ·have e:n * (3 * (l.length+1)+2)=n * (3 * l.length+2)+3 * n:=by rw [show 3 * (l.length+1)+2=(3 * l.length+2)+3 by omega,Nat.mul_add,Nat.mul_comm n 3]
   rw [hΦ,List.length_append,List.length_singleton,e]
   omega
 ·obtain⟨b,i',s1,s2,s3⟩:=inv.feed rt h0 y
  refine .inr ⟨b,i',?_,?_⟩
  ·rw [s3,s1,<-hG,List.append_assoc]
  ·rw [s2];push_cast;omega
theorem RP.shift {d':Int} (h:RP n Φ G d' t):RP n (Φ - d') G 0 t:=by
 rcases h with ⟨i,l,i1,i2,e,hG,hΦ⟩|⟨a,inv,hG,hΦ⟩
 ·exact .inl ⟨i,l,i1,i2,e,hG,by omega⟩
 ·exact .inr ⟨a,inv,hG,by omega⟩
theorem RP.new (h0:0<n) (l:List Int):RP n (1+((n * (3 * l.length+2):Nat):Int)) (l.map fun y=>finR y (n - 1)) 0 (rootS n 1 l):=.inl ⟨1,l,by omega,by omega,rfl,rfl,by omega⟩
end
end Go.Proofs.YtnhidaamfnjdjaaGreatDoor
namespace Go.Proofs.YtnhidaamfnjdjaaGreatDoor
open Go.RowKit Go.Maps
def nmR (i:Nat):Bs:=[[105,110],[97],[98],[99],[100],[111,117,116]].getD i []
def toR (n j:Nat):Bs:=if j+1=n then [111,117,116] else nmR (j+1)
def stI (n j:Nat):List Itm:=[⟨n,[118,97,114,32,120],⟨15,[120],[],.nil⟩⟩,⟨n+1,[119,104,105,108,101,32,49],⟨10,[],[],.num 1⟩⟩,⟨n+2,[115,101,113],⟨7,[],[],.nil⟩⟩,
 ⟨n+3,nmR j++[32,63,32,120],⟨5,[120],nmR j,.nil⟩⟩,⟨n+3,toR n j++[32,33,32,120,32,43,32]++[UInt8.ofNat (49+j)],⟨4,[],toR n j,.pair 43 (.var [120] 0) (.num ((j+1:Nat):Int))⟩⟩]
def chI (i:Nat):Itm:=⟨i,[99,104,97,110,32]++nmR (i+1),⟨16,nmR (i+1),[],.nil⟩⟩
def rowI (n:Nat):List Itm:=(List.range (n - 1)).map chI++[⟨n - 1,[112,97,114],⟨8,[],[],.nil⟩⟩]++(List.range n).flatMap (stI n)
def tabB (T:List PNode) (n:Nat):Bool :=
 ((List.range n).all fun j =>
  ((T.getD (bR n j) default).kind == 15&&(T.getD (bR n j) default).nd == vR n j&&(T.getD (bR n j) default).kids == [bR n j+1]) &&
  ((T.getD (bR n j+1) default).kind == 10&&peSame (T.getD (bR n j+1) default).expr (.num 1)&&(T.getD (bR n j+1) default).kids == [bR n j+2]) &&
  ((T.getD (bR n j+2) default).kind == 7&&(T.getD (bR n j+2) default).kids == [bR n j+3,bR n j+4]) &&
  ((T.getD (bR n j+3) default).kind == 5&&(T.getD (bR n j+3) default).nd == vR n j&&(T.getD (bR n j+3) default).cd == cR j&&peSame (T.getD (bR n j+3) default).expr .nil) &&
  ((T.getD (bR n j+4) default).kind == 4&&(T.getD (bR n j+4) default).cd == (if j+1=n then 2 else ((cR (j+1):Nat):Int))&&peSame (T.getD (bR n j+4) default).expr (.pair 43 (.var [120] (vR n j)) (.num ((j:Int)+1))))) &&
 ((List.range (n - 1)).all fun i=>(T.getD (i+1) default).kind == 16&&(T.getD (i+1) default).kids == [i+2])&&(T.getD n default).kind == 8&&(T.getD n default).kids == (List.range n).map (bR n)
def rowB (n:Nat):Bool:=(rowI n).all Itm.ok&&decide ((itText (rowI n)).length≤800)&&(match runI startP 0 ((rowI n).map fun x=>(x.d,x.p)) with
 | none=>false
 | some s=>s.complete 0&&(namedF s).1.line == 0&&(shareF (namedF s).2 (namedF s).2.length 0 (rootOf s)).2 == 0&&rootOf s == 1&&(makeF (namedF s).2 1).room == ((2 * n+2:Nat):Int)&&tabB (namedF s).2 n)
theorem row_b1:rowB 1=true:=by decide +kernel
theorem row_b2:rowB 2=true:=by decide +kernel
theorem row_b3:rowB 3=true:=by decide +kernel
theorem row_b4:rowB 4=true:=by decide +kernel
theorem row_b5:rowB 5=true:=by decide +kernel
theorem row_b (n:Nat) (h1:1≤n) (h5:n≤5):rowB n=true:=by
 rcases (show n=1∨n=2∨n=3∨n=4∨n=5 by omega) with rfl|rfl|rfl|rfl|rfl
 ·exact row_b1
 ·exact row_b2
 ·exact row_b3
 ·exact row_b4
 ·exact row_b5
theorem tabB_out {T:List PNode} {n:Nat} (h:tabB T n=true):RowT T n∧(∀ i,1≤i->i<n->(T.getD i default).kind=16∧(T.getD i default).kids=[i+1])∧(T.getD n default).kind=8∧(T.getD n default).kids=(List.range n).map (bR n):=by
 unfold tabB at h
 simp only [Bool.and_eq_true,List.all_eq_true,List.mem_range,beq_iff_eq] at h
 obtain⟨⟨⟨hj,hc⟩,h8⟩,hk⟩:=h
 refine⟨⟨fun j q=>?_,fun j q=>?_,fun j q=>?_,fun j q=>?_,fun j q=>?_⟩,fun i i1 i2=>?_,h8,hk⟩
 ·obtain⟨⟨⟨⟨x,_⟩,_⟩,_⟩,_⟩:=hj j q
  exact⟨x.1.1,x.1.2,x.2⟩
 ·obtain⟨⟨⟨⟨_,x⟩,_⟩,_⟩,_⟩:=hj j q
  exact⟨x.1.1,peSame_eq _ _ x.1.2,x.2⟩
 ·obtain⟨⟨⟨⟨_,_⟩,x⟩,_⟩,_⟩:=hj j q
  exact x
 ·obtain⟨⟨⟨⟨_,_⟩,_⟩,x⟩,_⟩:=hj j q
  exact⟨x.1.1.1,x.1.1.2,x.1.2,peSame_eq _ _ x.2⟩
 ·obtain⟨⟨⟨⟨_,_⟩,_⟩,_⟩,x⟩:=hj j q
  exact⟨x.1.1,x.1.2,_,peSame_eq _ _ x.2⟩
 ·have:=hc (i - 1) (by omega)
  rw [show i - 1+1=i by omega,show i - 1+2=i+1 by omega] at this
  exact this
theorem par_step (n:Nat) (h1:1≤n) (h5:n≤5) (l:List Int):(if ((TS.begins false ((rootS n n l).pop 0) 0 ((List.range n).map (bR n))).pr 0).below > 0 then (TS.begins false ((rootS n n l).pop 0) 0 ((List.range n).map (bR n))).wait 0 1 else TS.begins false ((rootS n n l).pop 0) 0 ((List.range n).map (bR n)))=parT n l:=by
 rcases (show n=1∨n=2∨n=3∨n=4∨n=5 by omega) with rfl|rfl|rfl|rfl|rfl <;> kernel_rfl
theorem root_new (n:Nat) (h1:1≤n) (h5:n≤5):newT ((2 * n+2:Nat):Int) 1=rootS n 1 []:=by
 rcases (show n=1∨n=2∨n=3∨n=4∨n=5 by omega) with rfl|rfl|rfl|rfl|rfl <;> kernel_rfl
theorem row_right (n:Nat) (h1:1≤n) (h5:n≤5):(itText (rowI n)).length≤800∧∃ s,parseF (itText (rowI n)) (linesF (itText (rowI n)))=(some s,0,0)∧checkF (itText (rowI n))=(0,0)∧rootOf s=1∧(makeF (namedF s).2 1).room=((2 * n+2:Nat):Int)∧RowT (namedF s).2 n∧HeadT (namedF s).2 n:=by
 have h:=row_b n h1 h5
 unfold rowB at h
 cases hr:runI startP 0 ((rowI n).map fun x=>(x.d,x.p)) with
 | none=>rw [hr] at h;simp at h
 | some s =>
  rw [hr] at h
  simp only [Bool.and_eq_true,List.all_eq_true,decide_eq_true_eq,beq_iff_eq] at h
  obtain⟨⟨hok,hlen⟩,⟨⟨⟨⟨hc,hl⟩,hs⟩,hrt⟩,hroom⟩,htab⟩:=h
  have hp:=parse_items (rowI n) hok s hr hc hlen
  obtain⟨rt,ch,k8,kk⟩:=tabB_out htab
  refine⟨hlen,s,hp,?_,hrt,hroom,rt,⟨ch,k8,fun l=>?_⟩⟩
  ·unfold checkF
   rw [hp]
   dsimp only
   rw [if_neg (by rw [hl];decide),if_neg (by rw [hs];decide)]
  ·unfold TS.stepN
   dsimp only
   rw [k8,kk]
   rw [if_neg (by decide),if_neg (by decide),if_neg (by decide),if_neg (by decide),if_neg (by decide),if_neg (by decide),if_pos (.inl rfl)]
   exact par_step n h1 h5 l
end Go.Proofs.YtnhidaamfnjdjaaGreatDoor
