import Derived.Test.YtnhidaamfnjdjaaGreatDoorZTmW
namespace Go.Proofs.YtnhidaamfnjdjaaGreatDoor
open Go.RowKit Go.Maps
def bR (n j:Nat):Nat:=n+1+5 * j
def vR (n j:Nat):Nat:=n+2+j
def cR (j:Nat):Nat:=if j=0 then 1 else 2+j
structure RowT (T:List PNode) (n:Nat):Prop where
 k0:∀ j,j<n->(T.getD (bR n j) default).kind=15∧(T.getD (bR n j) default).nd=vR n j∧(T.getD (bR n j) default).kids=[bR n j+1]
 k1:∀ j,j<n->(T.getD (bR n j+1) default).kind=10∧(T.getD (bR n j+1) default).expr=.num 1∧(T.getD (bR n j+1) default).kids=[bR n j+2]
 k2:∀ j,j<n->(T.getD (bR n j+2) default).kind=7∧(T.getD (bR n j+2) default).kids=[bR n j+3,bR n j+4]
 k3:∀ j,j<n->(T.getD (bR n j+3) default).kind=5∧(T.getD (bR n j+3) default).nd=vR n j∧(T.getD (bR n j+3) default).cd=cR j∧(T.getD (bR n j+3) default).expr=.nil
 k4:∀ j,j<n->(T.getD (bR n j+4) default).kind=4∧(T.getD (bR n j+4) default).cd=(if j+1=n then 2 else ((cR (j+1):Nat):Int))∧∃ s,(T.getD (bR n j+4) default).expr=.pair 43 (.var s (vR n j)) (.num ((j:Int)+1))
def pileR (n j:Nat):Nat->List (Nat×Nat)
 | 0=>[(bR n j,0)]
 | 1=>[(bR n j+1,0)]
 | 2=>[(bR n j+2,0),(bR n j+1,0)]
 | 3=>[(bR n j+3,0),(bR n j+2,1),(bR n j+1,0)]
 | 4=>[(bR n j+2,1),(bR n j+1,0)]
 | 5=>[(bR n j+4,0),(bR n j+2,2),(bR n j+1,0)]
 | _=>[(bR n j+2,2),(bR n j+1,0)]
structure RA where
 f:Nat->Nat
 w:Nat->Bool
 x:Nat->Int
 q:Nat->List Int
def RA.has (a:RA) (j:Nat):Bool:=(a.f j == 4&&!a.w j) || a.f j == 5
def RA.hold (a:RA) (j:Nat):List Int:=if a.has j=true then [a.x j] else []
def RA.rw (a:RA) (j:Nat):Bool:=a.w j&&a.f j == 4
def RA.xw (a:RA) (j:Nat):Bool:=a.w j&&a.f j == 6
def RA.tp (n:Nat) (a:RA) (j:Nat):TP:=⟨pileR n j (a.f j),some 0,false,0,if a.rw j=true then [bR n j+3] else [],if a.rw j=true then 2 else if a.xw j=true then 1 else 0,false⟩
def RA.ch (a:RA) (j:Nat):PCh:=⟨a.q j,if a.rw j=true then some (j+1) else none,match j with|0=>none|i+1=>if a.xw i=true then some (i+1) else none⟩
def RA.str (a:RA):Nat->List Int
 | 0=>(a.hold 0++a.q 0).map fun x=>w64 (x+1)
 | j+1=>(a.hold (j+1)++a.q (j+1)++a.str j).map fun x=>w64 (x+((j:Int)+2))
def RA.rem (a:RA) (j:Nat):Nat:=3 * (a.str j).length+(if a.f j=4∨a.f j=5 then 0 else if a.f j=2∨a.f j=3 then 1 else 2)
def RA.all (a:RA):Nat->Nat
 | 0=>0
 | n+1=>a.all n+a.rem n
structure RInv (n:Nat) (t:TS) (a:RA):Prop where
 len:t.procs.length=n+1
 vl:2 * n+2≤t.vars.length
 cl:2 * n+2≤t.chans.length
 tp:∀ j,j<n->t.pr (j+1)=a.tp n j
 ch:∀ j,j<n->t.chn (cR j)=a.ch j
 var:∀ j,j<n->a.has j=true->t.vars.getD (vR n j) 0=a.x j
 f6:∀ j,j<n->a.f j≤6
 wf:∀ j,j<n->a.w j=true->a.f j=4∨(a.f j=6∧j+1<n)
 q0:∀ j,j<n->a.rw j=true->a.q j=[]
 q1:∀ j,j+1<n->if a.xw j=true then ∃ y,a.q (j+1)=[y] else a.q (j+1)=[]
 cur:∀ p,t.cur=some p->∃ j,j<n∧p=j+1∧a.w j=false∧p∉t.oth
 oth:∀ p,p∈t.oth->∃ j,j<n∧p=j+1∧a.w j=false
 rdy:∀ j,j<n->a.w j=false->t.cur=some (j+1)∨j+1∈t.oth
 nd:t.oth.Nodup
 calm:t.urg=[]∧t.asleep=[]∧t.faulty=false∧t.ended=false∧t.time=0
end Go.Proofs.YtnhidaamfnjdjaaGreatDoor
namespace Go.Proofs.YtnhidaamfnjdjaaGreatDoor
open Go.RowKit Go.Maps
def updR {α:Type} (f:Nat->α) (j:Nat) (v:α):Nat->α:=fun i=>if i=j then v else f i
theorem updR_self {α:Type} (f:Nat->α) (j:Nat) (v:α):updR f j v j=v:=if_pos rfl
theorem updR_ne {α:Type} (f:Nat->α) {i j:Nat} (h:i≠j) (v:α):updR f j v i=f i:=if_neg h
theorem cR_ne {i j:Nat} (h:i≠j):cR i≠cR j:=by unfold cR;split <;> split <;> omega
theorem cR_lt {n j:Nat} (h:j<n):cR j<2 * n+2:=by unfold cR;split <;> omega
theorem vR_lt {n j:Nat} (h:j<n):vR n j<2 * n+2:=by unfold vR;omega
theorem vR_ne {n i j:Nat} (h:i≠j):vR n i≠vR n j:=by unfold vR;omega
section
variable {n j : Nat} {t t' : TS} {a : RA}
theorem RInv.idle (h:RInv n t a) (hc:t.cur=some (j+1)):j<n∧a.w j=false∧j+1∉t.oth:=by
 obtain⟨i,h1,h2,h3,h4⟩:=h.cur _ hc
 have:i=j:=by omega
 subst this
 exact⟨h1,h3,h4⟩
structure Calm (t t':TS):Prop where
 urg:t'.urg=t.urg
 asleep:t'.asleep=t.asleep
 faulty:t'.faulty=t.faulty
 ended:t'.ended=t.ended
 time:t'.time=t.time
theorem RInv.calm' (h:RInv n t a) (c:Calm t t'):t'.urg=[]∧t'.asleep=[]∧t'.faulty=false∧t'.ended=false∧t'.time=0:=by
 rw [c.urg,c.asleep,c.faulty,c.ended,c.time]
 exact h.calm
theorem RA.rw_of (a:RA) (h:a.w j=false):a.rw j=false:=by unfold RA.rw;rw [h];rfl
theorem RA.xw_of (a:RA) (h:a.w j=false):a.xw j=false:=by unfold RA.xw;rw [h];rfl
theorem RInv.moved (h:RInv n t a) (hc:t.cur=some (j+1)) (k:Nat) (hk:k≤6) (hh:k=4∨k=5->a.has j=true) (y:TP) (hy:y={ t.pr (j+1) with pile:=pileR n j k }) (hp:t'.procs=(t.setPr (j+1) y).procs) (hch:t'.chans=t.chans) (hv:t'.vars.length=t.vars.length)
  (hvv:∀ i,i<n->i≠j∨k=4∨k=5->t'.vars.getD (vR n i) 0=t.vars.getD (vR n i) 0) (ho:t'.oth=t.oth) (hcur:t'.cur=t.cur) (cm:Calm t t'):RInv n t' { a with f:=updR a.f j k }:=by
 obtain⟨hj,hw,hno⟩:=h.idle hc
 have erw:∀ i,RA.rw { a with f:=updR a.f j k } i=a.rw i:=fun i=>by
  by_cases e:i=j
  ·subst e;exact (RA.rw_of { a with f:=updR a.f i k } hw).trans (RA.rw_of a hw).symm
  ·unfold RA.rw;dsimp only;rw [updR_ne _ e]
 have exw:∀ i,RA.xw { a with f:=updR a.f j k } i=a.xw i:=fun i=>by
  by_cases e:i=j
  ·subst e;exact (RA.xw_of { a with f:=updR a.f i k } hw).trans (RA.xw_of a hw).symm
  ·unfold RA.xw;dsimp only;rw [updR_ne _ e]
 have ehas:∀ i,i≠j->RA.has { a with f:=updR a.f j k } i=a.has i:=fun i e=>by
  unfold RA.has;dsimp only;rw [updR_ne _ e]
 refine⟨by rw [hp,TS.len_set];exact h.len,by rw [hv];exact h.vl,by rw [hch];exact h.cl,fun i hi=>?_,fun i hi=>?_,fun i hi hs=>?_,fun i hi=>?_,fun i hi hwi=>?_,fun i hi hr=>?_,fun i hi=>?_,fun p hp=>?_,fun p hp=>?_,fun i hi hwi=>?_,by rw [ho];exact h.nd,h.calm' cm⟩
 ·rw [TS.pr_procs hp]
  by_cases e:i=j
  ·subst e
   rw [TS.pr_self (by rw [h.len];omega),hy,h.tp i hi]
   unfold RA.tp
   rw [erw,exw]
   dsimp only
   rw [updR_self]
  ·rw [TS.pr_ne _ (by omega),h.tp i hi]
   unfold RA.tp
   rw [erw,exw]
   dsimp only
   rw [updR_ne _ e]
 ·have:t'.chn (cR i)=t.chn (cR i):=by unfold TS.chn;rw [hch]
  rw [this,h.ch i hi]
  unfold RA.ch
  rw [erw]
  cases i with
  | zero=>rfl
  | succ i=>dsimp only;rw [exw]
 ·by_cases e:i=j
  ·subst e
   have hk':k=4∨k=5:=by
    unfold RA.has at hs
    dsimp only at hs
    rw [updR_self] at hs
    simp at hs
    omega
   rw [hvv i hi (.inr hk')]
   exact h.var i hi (hh hk')
  ·rw [hvv i hi (.inl e)]
   exact h.var i hi (by rw [<-ehas i e];exact hs)
 ·show updR a.f j k i≤6
  by_cases e:i=j
  ·subst e;rw [updR_self];exact hk
  ·rw [updR_ne _ e];exact h.f6 i hi
 ·by_cases e:i=j
  ·subst e
   have:a.w i=true:=hwi
   rw [hw] at this;cases this
  ·show updR a.f j k i=4∨updR a.f j k i=6∧_
   rw [updR_ne _ e]
   exact h.wf i hi hwi
 ·rw [erw] at hr;exact h.q0 i hi hr
 ·rw [exw];exact h.q1 i hi
 ·rw [hcur] at hp
  rw [ho]
  exact h.cur p hp
 ·rw [ho] at hp
  exact h.oth p hp
 ·rw [hcur,ho]
  exact h.rdy i hi hwi
end
end Go.Proofs.YtnhidaamfnjdjaaGreatDoor
namespace Go.Proofs.YtnhidaamfnjdjaaGreatDoor
open Go.RowKit Go.Maps
section
variable {n j : Nat} {t t' : TS} {a : RA} {y : Int}
structure Sizes (t t':TS):Prop where
 p:t'.procs.length=t.procs.length
 v:t'.vars.length=t.vars.length
 c:t'.chans.length=t.chans.length
theorem RA.tp_eq {a b:RA} {i:Nat} (hf:b.f i=a.f i) (h1:b.rw i=a.rw i) (h2:b.xw i=a.xw i):b.tp n i=a.tp n i:=by
 unfold RA.tp
 rw [hf,h1,h2]
theorem RA.ch_eq {a b:RA} {i:Nat} (hq:b.q i=a.q i) (h1:b.rw i=a.rw i) (h2:∀ k,i=k+1->b.xw k=a.xw k):b.ch i=a.ch i:=by
 unfold RA.ch
 rw [hq,h1]
 cases i with
 | zero=>rfl
 | succ k=>dsimp only;rw [h2 k rfl]
theorem RInv.rwaits (h:RInv n t a) (hc:t.cur=some (j+1)) (hf:a.f j=3) (hq:a.q j=[]) (sz:Sizes t t') (cm:Calm t t') (hp:∀ i,i≠j->t'.pr (i+1)=t.pr (i+1)) (hpj:t'.pr (j+1)={ t.pr (j+1) with pile:=pileR n j 4,opn:=[bR n j+3],told:=2 })
  (hch:∀ i,i≠j->t'.chn (cR i)=t.chn (cR i)) (hcj:t'.chn (cR j)={ t.chn (cR j) with rd:=some (j+1) }) (hv:t'.vars=t.vars) (ho:t'.oth=t.oth) (hcur:t'.cur=none):RInv n t' { a with f:=updR a.f j 4,w:=updR a.w j true }:=by
 obtain⟨hj,hw,hno⟩:=h.idle hc
 have rj:RA.rw { a with f:=updR a.f j 4,w:=updR a.w j true } j=true:=by unfold RA.rw;dsimp only;rw [updR_self,updR_self];rfl
 have rn:∀ i,i≠j->RA.rw { a with f:=updR a.f j 4,w:=updR a.w j true } i=a.rw i:=fun i e=>by unfold RA.rw;dsimp only;rw [updR_ne _ e,updR_ne _ e]
 have xa:∀ i,RA.xw { a with f:=updR a.f j 4,w:=updR a.w j true } i=a.xw i:=fun i=>by
  by_cases e:i=j
  ·subst e;unfold RA.xw;dsimp only;rw [updR_self,updR_self,hw];rfl
  ·unfold RA.xw;dsimp only;rw [updR_ne _ e,updR_ne _ e]
 have ha:∀ i,RA.has { a with f:=updR a.f j 4,w:=updR a.w j true } i=a.has i:=fun i=>by
  by_cases e:i=j
  ·subst e;unfold RA.has;dsimp only;rw [updR_self,updR_self,hf];rfl
  ·unfold RA.has;dsimp only;rw [updR_ne _ e,updR_ne _ e]
 refine⟨sz.p.trans h.len,by rw [sz.v];exact h.vl,by rw [sz.c];exact h.cl,fun i hi=>?_,fun i hi=>?_,fun i hi hs=>?_,fun i hi=>?_,fun i hi hwi=>?_,fun i hi hr=>?_,fun i hi=>?_,fun p hcp=>?_,fun p hop=>?_,fun i hi hwi=>?_,by rw [ho];exact h.nd,h.calm' cm⟩
 ·by_cases e:i=j
  ·subst e
   rw [hpj,h.tp i hi]
   unfold RA.tp
   rw [rj]
   dsimp only
   rw [updR_self]
   rfl
  ·rw [hp i e,h.tp i hi]
   exact (RA.tp_eq (updR_ne _ e 4) (rn i e) (xa i)).symm
 ·by_cases e:i=j
  ·subst e
   rw [hcj,h.ch i hi]
   unfold RA.ch
   rw [rj]
   cases i with
   | zero=>rfl
   | succ k=>dsimp only;rw [xa];rfl
  ·rw [hch i e,h.ch i hi]
   exact (RA.ch_eq (a:=a) (b:={ a with f:=updR a.f j 4,w:=updR a.w j true }) rfl (rn i e) (fun k _=>xa k)).symm
 ·rw [ha] at hs
  rw [hv]
  exact h.var i hi hs
 ·show updR a.f j 4 i≤6
  by_cases e:i=j
  ·subst e;rw [updR_self];decide
  ·rw [updR_ne _ e];exact h.f6 i hi
 ·by_cases e:i=j
  ·subst e
   exact .inl (updR_self _ _ _)
  ·show updR a.f j 4 i=4∨updR a.f j 4 i=6∧_
   rw [updR_ne _ e]
   refine h.wf i hi ?_
   have:updR a.w j true i=true:=hwi
   rwa [updR_ne _ e] at this
 ·by_cases e:i=j
  ·subst e;exact hq
  ·rw [rn i e] at hr;exact h.q0 i hi hr
 ·rw [xa];exact h.q1 i hi
 ·rw [hcur] at hcp;cases hcp
 ·rw [ho] at hop
  obtain⟨i,i1,i2,i3⟩:=h.oth p hop
  have e:i≠j:=fun e=>by subst e;rw [i2] at hop;exact hno hop
  exact⟨i,i1,i2,by show updR a.w j true i=false;rw [updR_ne _ e];exact i3⟩
 ·have e:i≠j:=fun e=>by
   subst e
   have:updR a.w i true i=false:=hwi
   rw [updR_self] at this;cases this
  have hwi:updR a.w j true i=false:=hwi
  rw [updR_ne _ e] at hwi
  rcases h.rdy i hi hwi with x|x
  ·rw [hc] at x
   injection x with x
   omega
  ·exact .inr (by rw [ho];exact x)
theorem RInv.xwaits (h:RInv n t a) (hc:t.cur=some (j+1)) (hf:a.f j=5) (hn:j+1<n) (hr:a.rw (j+1)=false) (sz:Sizes t t') (cm:Calm t t') (hp:∀ i,i≠j->t'.pr (i+1)=t.pr (i+1)) (hpj:t'.pr (j+1)={ t.pr (j+1) with pile:=pileR n j 6,told:=1 })
  (hch:∀ i,i≠j+1->t'.chn (cR i)=t.chn (cR i)) (hcj:t'.chn (cR (j+1))={ t.chn (cR (j+1)) with nums:=(t.chn (cR (j+1))).nums++[y],wr:=some (j+1) }) (hv:t'.vars=t.vars) (ho:t'.oth=t.oth) (hcur:t'.cur=none):RInv n t' { a with f:=updR a.f j 6,w:=updR a.w j true,q:=updR a.q (j+1) [y] }:=by
 obtain⟨hj,hw,hno⟩:=h.idle hc
 have hq:a.q (j+1)=[]:=by
  have:=h.q1 j hn
  rw [if_neg (by rw [RA.xw_of a hw];simp)] at this
  exact this
 generalize hb:({ a with f:=updR a.f j 6,w:=updR a.w j true,q:=updR a.q (j+1) [y] }:RA)=b
 have bf:b.f=updR a.f j 6:=by rw [<-hb]
 have bw:b.w=updR a.w j true:=by rw [<-hb]
 have bq:b.q=updR a.q (j+1) [y]:=by rw [<-hb]
 have bx:b.x=a.x:=by rw [<-hb]
 have ra:∀ i,b.rw i=a.rw i:=fun i=>by
  unfold RA.rw;rw [bf,bw]
  by_cases e:i=j
  ·subst e;rw [updR_self,updR_self,hw];rfl
  ·rw [updR_ne _ e,updR_ne _ e]
 have xj:b.xw j=true:=by unfold RA.xw;rw [bf,bw,updR_self,updR_self];rfl
 have xn:∀ i,i≠j->b.xw i=a.xw i:=fun i e=>by unfold RA.xw;rw [bf,bw,updR_ne _ e,updR_ne _ e]
 have hn':∀ i,i≠j->b.has i=a.has i:=fun i e=>by unfold RA.has;rw [bf,bw,updR_ne _ e,updR_ne _ e]
 have hj':b.has j=false:=by unfold RA.has;rw [bf,bw,updR_self,updR_self];rfl
 refine⟨sz.p.trans h.len,by rw [sz.v];exact h.vl,by rw [sz.c];exact h.cl,fun i hi=>?_,fun i hi=>?_,fun i hi hs=>?_,fun i hi=>?_,fun i hi hwi=>?_,fun i hi hr=>?_,fun i hi=>?_,fun p hcp=>?_,fun p hop=>?_,fun i hi hwi=>?_,by rw [ho];exact h.nd,h.calm' cm⟩
 ·by_cases e:i=j
  ·subst e
   rw [hpj,h.tp i hi]
   unfold RA.tp
   rw [ra,xj,RA.rw_of a hw,bf,updR_self]
   rfl
  ·rw [hp i e,h.tp i hi]
   exact (RA.tp_eq (by rw [bf,updR_ne _ e]) (ra i) (xn i e)).symm
 ·by_cases e:i=j+1
  ·subst e
   rw [hcj,h.ch _ hi]
   unfold RA.ch
   dsimp only
   rw [ra,xj,bq,updR_self,hq]
   rfl
  ·rw [hch i e,h.ch i hi]
   exact (RA.ch_eq (by rw [bq,updR_ne _ e]) (ra i) (fun k hk=>xn k (by omega))).symm
 ·have e:i≠j:=fun e=>by subst e;rw [hj'] at hs;cases hs
  rw [hv,bx]
  exact h.var i hi (by rw [<-hn' i e];exact hs)
 ·rw [bf]
  by_cases e:i=j
  ·subst e;rw [updR_self];decide
  ·rw [updR_ne _ e];exact h.f6 i hi
 ·rw [bf]
  rw [bw] at hwi
  by_cases e:i=j
  ·subst e
   exact .inr ⟨updR_self _ _ _,hn⟩
  ·rw [updR_ne _ e] at hwi ⊢
   exact h.wf i hi hwi
 ·rename_i hr0
  rw [ra] at hr
  have e:i≠j+1:=fun e=>by subst e;rw [hr0] at hr;cases hr
  rw [bq,updR_ne _ e]
  exact h.q0 i hi hr
 ·by_cases e:i=j
  ·subst e
   rw [xj,if_pos rfl,bq,updR_self]
   exact⟨y,rfl⟩
  ·rw [xn i e,bq,updR_ne _ (by omega)]
   exact h.q1 i hi
 ·rw [hcur] at hcp;cases hcp
 ·rw [ho] at hop
  obtain⟨i,i1,i2,i3⟩:=h.oth p hop
  have e:i≠j:=fun e=>by subst e;rw [i2] at hop;exact hno hop
  exact⟨i,i1,i2,by rw [bw,updR_ne _ e];exact i3⟩
 ·rw [bw] at hwi
  have e:i≠j:=fun e=>by subst e;rw [updR_self] at hwi;cases hwi
  rw [updR_ne _ e] at hwi
  rcases h.rdy i hi hwi with x|x
  ·rw [hc] at x
   injection x with x
   omega
  ·exact .inr (by rw [ho];exact x)
end
end Go.Proofs.YtnhidaamfnjdjaaGreatDoor
namespace Go.Proofs.YtnhidaamfnjdjaaGreatDoor
open Go.RowKit Go.Maps
section
variable {n j : Nat} {t t' : TS} {a : RA} {y : Int}
theorem RInv.reads0 {r:List Int} (h:RInv n t a) (hc:t.cur=some 1) (sz:Sizes t t') (cm:Calm t t') (hp:∀ i,i≠0->t'.pr (i+1)=t.pr (i+1)) (hpj:t'.pr 1={ t.pr 1 with pile:=pileR n 0 4 })
  (hch:∀ i,i≠0->t'.chn (cR i)=t.chn (cR i)) (hcj:t'.chn (cR 0)={ t.chn (cR 0) with nums:=r }) (hv:∀ i,i<n->i≠0->t'.vars.getD (vR n i) 0=t.vars.getD (vR n i) 0) (hvj:t'.vars.getD (vR n 0) 0=y) (ho:t'.oth=t.oth) (hcur:t'.cur=t.cur):RInv n t' { a with f:=updR a.f 0 4,x:=updR a.x 0 y,q:=updR a.q 0 r }:=by
 obtain⟨hj,hw,hno⟩:=h.idle (j:=0) hc
 generalize hb:({ a with f:=updR a.f 0 4,x:=updR a.x 0 y,q:=updR a.q 0 r }:RA)=b
 have bf:b.f=updR a.f 0 4:=by rw [<-hb]
 have bw:b.w=a.w:=by rw [<-hb]
 have bq:b.q=updR a.q 0 r:=by rw [<-hb]
 have bx:b.x=updR a.x 0 y:=by rw [<-hb]
 have ra:∀ i,b.rw i=a.rw i:=fun i=>by
  unfold RA.rw;rw [bf,bw]
  by_cases e:i=0
  ·subst e;rw [hw];rfl
  ·rw [updR_ne _ e]
 have xa:∀ i,b.xw i=a.xw i:=fun i=>by
  unfold RA.xw;rw [bf,bw]
  by_cases e:i=0
  ·subst e;rw [hw];rfl
  ·rw [updR_ne _ e]
 have hn':∀ i,i≠0->b.has i=a.has i:=fun i e=>by unfold RA.has;rw [bf,bw,updR_ne _ e]
 refine⟨sz.p.trans h.len,by rw [sz.v];exact h.vl,by rw [sz.c];exact h.cl,fun i hi=>?_,fun i hi=>?_,fun i hi hs=>?_,fun i hi=>?_,fun i hi hwi=>?_,fun i hi hr=>?_,fun i hi=>?_,by rw [hcur,ho,bw];exact h.cur,by rw [ho,bw];exact h.oth,by rw [hcur,ho,bw];exact h.rdy,by rw [ho];exact h.nd,h.calm' cm⟩
 ·by_cases e:i=0
  ·subst e
   rw [hpj,h.tp 0 hi]
   unfold RA.tp
   rw [ra,xa,bf,updR_self]
  ·rw [hp i e,h.tp i hi]
   exact (RA.tp_eq (by rw [bf,updR_ne _ e]) (ra i) (xa i)).symm
 ·by_cases e:i=0
  ·subst e
   rw [hcj,h.ch 0 hi]
   unfold RA.ch
   rw [ra,bq,updR_self]
  ·rw [hch i e,h.ch i hi]
   exact (RA.ch_eq (by rw [bq,updR_ne _ e]) (ra i) (fun k _=>xa k)).symm
 ·rw [bx]
  by_cases e:i=0
  ·subst e;rw [updR_self];exact hvj
  ·rw [hv i hi e,updR_ne _ e]
   exact h.var i hi (by rw [<-hn' i e];exact hs)
 ·rw [bf]
  by_cases e:i=0
  ·subst e;rw [updR_self];decide
  ·rw [updR_ne _ e];exact h.f6 i hi
 ·rw [bw] at hwi
  have e:i≠0:=fun e=>by subst e;rw [hw] at hwi;cases hwi
  rw [bf,updR_ne _ e]
  exact h.wf i hi hwi
 ·rw [ra] at hr
  have e:i≠0:=fun e=>by subst e;rw [RA.rw_of a hw] at hr;cases hr
  rw [bq,updR_ne _ e]
  exact h.q0 i hi hr
 ·rw [xa,bq,updR_ne _ (by omega)]
  exact h.q1 i hi
theorem RInv.reads1 {i0:Nat} (h:RInv n t a) (hc:t.cur=some (i0+1+1)) (hf:a.f (i0+1)=3) (hx:a.xw i0=true) (hq:a.q (i0+1)=[y]) (sz:Sizes t t') (cm:Calm t t') (hp:∀ i,i≠i0->i≠i0+1->t'.pr (i+1)=t.pr (i+1)) (hpj:t'.pr (i0+1+1)={ t.pr (i0+1+1) with pile:=pileR n (i0+1) 4 }) (hpi:t'.pr (i0+1)={ t.pr (i0+1) with told:=0 })
  (hch:∀ i,i≠i0+1->t'.chn (cR i)=t.chn (cR i)) (hcj:t'.chn (cR (i0+1))=⟨[],(t.chn (cR (i0+1))).rd,none⟩) (hv:∀ i,i<n->i≠i0+1->t'.vars.getD (vR n i) 0=t.vars.getD (vR n i) 0) (hvj:t'.vars.getD (vR n (i0+1)) 0=y) (ho:t'.oth=t.oth++[i0+1]) (hcur:t'.cur=t.cur):RInv n t' { a with f:=updR a.f (i0+1) 4,w:=updR a.w i0 false,x:=updR a.x (i0+1) y,q:=updR a.q (i0+1) [] }:=by
 obtain⟨hj,hw,hno⟩:=h.idle hc
 have hxw:a.w i0=true∧a.f i0=6:=by
  unfold RA.xw at hx
  rw [Bool.and_eq_true,beq_iff_eq] at hx
  exact hx
 generalize hb:({ a with f:=updR a.f (i0+1) 4,w:=updR a.w i0 false,x:=updR a.x (i0+1) y,q:=updR a.q (i0+1) [] }:RA)=b
 have bf:b.f=updR a.f (i0+1) 4:=by rw [<-hb]
 have bw:b.w=updR a.w i0 false:=by rw [<-hb]
 have bq:b.q=updR a.q (i0+1) []:=by rw [<-hb]
 have bx:b.x=updR a.x (i0+1) y:=by rw [<-hb]
 have ne1:i0+1≠i0:=by omega
 have ne2:i0≠i0+1:=by omega
 have ra:∀ i,b.rw i=a.rw i:=fun i=>by
  unfold RA.rw;rw [bf,bw]
  by_cases e:i=i0+1
  ·subst e;rw [updR_ne _ ne1,hw];rfl
  ·rw [updR_ne _ e]
   by_cases e2:i=i0
   ·subst e2;rw [hxw.2];simp
   ·rw [updR_ne _ e2]
 have xi:b.xw i0=false:=by unfold RA.xw;rw [bw,updR_self];rfl
 have xn:∀ i,i≠i0->b.xw i=a.xw i:=fun i e=>by
  unfold RA.xw;rw [bf,bw,updR_ne _ e]
  by_cases e2:i=i0+1
  ·subst e2;rw [hw];rfl
  ·rw [updR_ne _ e2]
 have hn':∀ i,i≠i0+1->b.has i=a.has i:=fun i e=>by
  unfold RA.has;rw [bf,bw,updR_ne _ e]
  by_cases e2:i=i0
  ·subst e2;rw [hxw.2];rfl
  ·rw [updR_ne _ e2]
 refine⟨sz.p.trans h.len,by rw [sz.v];exact h.vl,by rw [sz.c];exact h.cl,fun i hi=>?_,fun i hi=>?_,fun i hi hs=>?_,fun i hi=>?_,fun i hi hwi=>?_,fun i hi hr=>?_,fun i hi=>?_,fun p hcp=>?_,fun p hop=>?_,fun i hi hwi=>?_,?_,h.calm' cm⟩
 ·by_cases e:i=i0+1
  ·subst e
   rw [hpj,h.tp _ hi]
   unfold RA.tp
   rw [ra,xn _ ne1,bf,updR_self]
  ·by_cases e2:i=i0
   ·subst e2
    rw [hpi,h.tp _ hi]
    have r0:a.rw i=false:=by unfold RA.rw;rw [hxw.2];simp
    unfold RA.tp
    rw [ra,xi,hx,r0,bf,updR_ne _ e]
    rfl
   ·rw [hp i e2 e,h.tp i hi]
    exact (RA.tp_eq (by rw [bf,updR_ne _ e]) (ra i) (xn i e2)).symm
 ·by_cases e:i=i0+1
  ·subst e
   rw [hcj,h.ch _ hi]
   unfold RA.ch
   dsimp only
   rw [ra,xi,bq,updR_self]
   rfl
  ·rw [hch i e,h.ch i hi]
   exact (RA.ch_eq (by rw [bq,updR_ne _ e]) (ra i) (fun k hk=>xn k (by omega))).symm
 ·rw [bx]
  by_cases e:i=i0+1
  ·subst e;rw [updR_self];exact hvj
  ·rw [hv i hi e,updR_ne _ e]
   exact h.var i hi (by rw [<-hn' i e];exact hs)
 ·rw [bf]
  by_cases e:i=i0+1
  ·subst e;rw [updR_self];decide
  ·rw [updR_ne _ e];exact h.f6 i hi
 ·rw [bw] at hwi
  have e:i≠i0:=fun e=>by subst e;rw [updR_self] at hwi;cases hwi
  rw [updR_ne _ e] at hwi
  have e2:i≠i0+1:=fun e=>by subst e;rw [hw] at hwi;cases hwi
  rw [bf,updR_ne _ e2]
  exact h.wf i hi hwi
 ·rw [ra] at hr
  rw [bq]
  by_cases e:i=i0+1
  ·subst e;exact updR_self _ _ _
  ·rw [updR_ne _ e]
   exact h.q0 i hi hr
 ·by_cases e:i=i0
  ·subst e
   rw [xi,if_neg (by simp),bq,updR_self]
  ·rw [xn i e,bq,updR_ne _ (by omega)]
   exact h.q1 i hi
 ·rw [hcur] at hcp
  obtain⟨i,i1,i2,i3,i4⟩:=h.cur p hcp
  rw [hc] at hcp
  injection hcp with hcp
  refine⟨i,i1,i2,?_,?_⟩
  ·rw [bw,updR_ne _ (by omega)];exact i3
  ·rw [ho,List.mem_append,List.mem_singleton,not_or]
   exact⟨i4,by omega⟩
 ·rw [ho,List.mem_append,List.mem_singleton] at hop
  rcases hop with hop|hop
  ·obtain⟨i,i1,i2,i3⟩:=h.oth p hop
   refine⟨i,i1,i2,?_⟩
   rw [bw]
   by_cases e:i=i0
   ·subst e;exact updR_self _ _ _
   ·rw [updR_ne _ e];exact i3
  ·exact⟨i0,by omega,hop,by rw [bw,updR_self]⟩
 ·rw [hcur,ho,List.mem_append,List.mem_singleton]
  rw [bw] at hwi
  by_cases e:i=i0
  ·subst e;exact .inr (.inr rfl)
  ·rw [updR_ne _ e] at hwi
   rcases h.rdy i hi hwi with x|x
   ·exact .inl x
   ·exact .inr (.inl x)
 ·rw [ho]
  refine List.nodup_append.2 ⟨h.nd,by simp,?_⟩
  intro p hpo q hq2 e
  rw [List.mem_singleton] at hq2
  obtain⟨i,i1,i2,i3⟩:=h.oth p hpo
  have:i=i0:=by omega
  subst this
  rw [hxw.1] at i3;cases i3
end
end Go.Proofs.YtnhidaamfnjdjaaGreatDoor
namespace Go.Proofs.YtnhidaamfnjdjaaGreatDoor
open Go.RowKit Go.Maps
section
variable {n j : Nat} {t t' : TS} {a : RA} {y : Int}
theorem RA.rw_is {j:Nat} (h:a.rw j=true):a.w j=true∧a.f j=4:=by
 unfold RA.rw at h
 rw [Bool.and_eq_true,beq_iff_eq] at h
 exact h
theorem RInv.hands (h:RInv n t a) (hc:t.cur=some (j+1)) (hn:j+1<n) (hr:a.rw (j+1)=true) (sz:Sizes t t') (cm:Calm t t') (hp:∀ i,i≠j->i≠j+1->t'.pr (i+1)=t.pr (i+1)) (hpj:t'.pr (j+1)={ t.pr (j+1) with pile:=pileR n j 6 }) (hpi:t'.pr (j+1+1)={ t.pr (j+1+1) with told:=0,opn:=[] })
  (hch:∀ i,i≠j+1->t'.chn (cR i)=t.chn (cR i)) (hcj:t'.chn (cR (j+1))={ t.chn (cR (j+1)) with rd:=none }) (hv:∀ i,i<n->i≠j+1->t'.vars.getD (vR n i) 0=t.vars.getD (vR n i) 0) (hvj:t'.vars.getD (vR n (j+1)) 0=y) (ho:t'.oth=t.oth++[j+1+1]) (hcur:t'.cur=t.cur):RInv n t' { a with f:=updR a.f j 6,w:=updR a.w (j+1) false,x:=updR a.x (j+1) y }:=by
 obtain⟨hj,hw,hno⟩:=h.idle hc
 obtain⟨hrw,hrf⟩:=RA.rw_is hr
 generalize hb:({ a with f:=updR a.f j 6,w:=updR a.w (j+1) false,x:=updR a.x (j+1) y }:RA)=b
 have bf:b.f=updR a.f j 6:=by rw [<-hb]
 have bw:b.w=updR a.w (j+1) false:=by rw [<-hb]
 have bq:b.q=a.q:=by rw [<-hb]
 have bx:b.x=updR a.x (j+1) y:=by rw [<-hb]
 have ne1:j+1≠j:=by omega
 have ne2:j≠j+1:=by omega
 have rj:b.rw (j+1)=false:=by unfold RA.rw;rw [bw,updR_self];rfl
 have rn:∀ i,i≠j+1->b.rw i=a.rw i:=fun i e=>by
  unfold RA.rw;rw [bf,bw,updR_ne _ e]
  by_cases e2:i=j
  ·subst e2;rw [hw];rfl
  ·rw [updR_ne _ e2]
 have xa:∀ i,b.xw i=a.xw i:=fun i=>by
  unfold RA.xw;rw [bf,bw]
  by_cases e:i=j+1
  ·subst e;rw [updR_self,hrf];simp
  ·rw [updR_ne _ e]
   by_cases e2:i=j
   ·subst e2;rw [hw];rfl
   ·rw [updR_ne _ e2]
 have hn':∀ i,i≠j->i≠j+1->b.has i=a.has i:=fun i e e2=>by unfold RA.has;rw [bf,bw,updR_ne _ e,updR_ne _ e2]
 have hj':b.has j=false:=by unfold RA.has;rw [bf,updR_self];simp
 refine⟨sz.p.trans h.len,by rw [sz.v];exact h.vl,by rw [sz.c];exact h.cl,fun i hi=>?_,fun i hi=>?_,fun i hi hs=>?_,fun i hi=>?_,fun i hi hwi=>?_,fun i hi hr=>?_,fun i hi=>?_,fun p hcp=>?_,fun p hop=>?_,fun i hi hwi=>?_,?_,h.calm' cm⟩
 ·by_cases e:i=j+1
  ·subst e
   rw [hpi,h.tp _ hi]
   unfold RA.tp
   rw [rj,xa,hr,bf,updR_ne _ ne1]
   have x0:a.xw (j+1)=false:=by unfold RA.xw;rw [hrf];simp
   rw [x0]
   rfl
  ·by_cases e2:i=j
   ·subst e2
    rw [hpj,h.tp _ hi]
    unfold RA.tp
    rw [rn _ e,xa,bf,updR_self]
   ·rw [hp i e2 e,h.tp i hi]
    exact (RA.tp_eq (by rw [bf,updR_ne _ e2]) (rn i e) (xa i)).symm
 ·by_cases e:i=j+1
  ·subst e
   rw [hcj,h.ch _ hi]
   unfold RA.ch
   dsimp only
   rw [rj,xa,bq]
   rfl
  ·rw [hch i e,h.ch i hi]
   exact (RA.ch_eq (by rw [bq]) (rn i e) (fun k _=>xa k)).symm
 ·rw [bx]
  by_cases e:i=j+1
  ·subst e;rw [updR_self];exact hvj
  ·have e2:i≠j:=fun e=>by subst e;rw [hj'] at hs;cases hs
   rw [hv i hi e,updR_ne _ e]
   exact h.var i hi (by rw [<-hn' i e2 e];exact hs)
 ·rw [bf]
  by_cases e:i=j
  ·subst e;rw [updR_self];decide
  ·rw [updR_ne _ e];exact h.f6 i hi
 ·rw [bw] at hwi
  have e:i≠j+1:=fun e=>by subst e;rw [updR_self] at hwi;cases hwi
  rw [updR_ne _ e] at hwi
  have e2:i≠j:=fun e=>by subst e;rw [hw] at hwi;cases hwi
  rw [bf,updR_ne _ e2]
  exact h.wf i hi hwi
 ·have e:i≠j+1:=fun e=>by subst e;rw [rj] at hr;cases hr
  rw [rn i e] at hr
  rw [bq]
  exact h.q0 i hi hr
 ·rw [xa,bq]
  exact h.q1 i hi
 ·rw [hcur] at hcp
  obtain⟨i,i1,i2,i3,i4⟩:=h.cur p hcp
  rw [hc] at hcp
  injection hcp with hcp
  refine⟨i,i1,i2,?_,?_⟩
  ·rw [bw,updR_ne _ (by omega)];exact i3
  ·rw [ho,List.mem_append,List.mem_singleton,not_or]
   exact⟨i4,by omega⟩
 ·rw [ho,List.mem_append,List.mem_singleton] at hop
  rcases hop with hop|hop
  ·obtain⟨i,i1,i2,i3⟩:=h.oth p hop
   refine⟨i,i1,i2,?_⟩
   rw [bw]
   by_cases e:i=j+1
   ·subst e;exact updR_self _ _ _
   ·rw [updR_ne _ e];exact i3
  ·exact⟨j+1,hn,hop,by rw [bw,updR_self]⟩
 ·rw [hcur,ho,List.mem_append,List.mem_singleton]
  rw [bw] at hwi
  by_cases e:i=j+1
  ·subst e;exact .inr (.inr rfl)
  ·rw [updR_ne _ e] at hwi
   rcases h.rdy i hi hwi with x|x
   ·exact .inl x
   ·exact .inr (.inl x)
 ·rw [ho]
  refine List.nodup_append.2 ⟨h.nd,by simp,?_⟩
  intro p hpo q hq2 e
  rw [List.mem_singleton] at hq2
  obtain⟨i,i1,i2,i3⟩:=h.oth p hpo
  have:i=j+1:=by omega
  subst this
  rw [hrw] at i3;cases i3
theorem RInv.fedW (h:RInv n t a) (h0:0<n) (hr:a.rw 0=true) (sz:Sizes t t') (cm:Calm t t') (hp:∀ i,i≠0->t'.pr (i+1)=t.pr (i+1)) (hpj:t'.pr 1={ t.pr 1 with told:=0,opn:=[] })
  (hch:∀ i,i≠0->t'.chn (cR i)=t.chn (cR i)) (hcj:t'.chn (cR 0)={ t.chn (cR 0) with rd:=none }) (hv:∀ i,i<n->i≠0->t'.vars.getD (vR n i) 0=t.vars.getD (vR n i) 0) (hvj:t'.vars.getD (vR n 0) 0=y) (ho:t'.oth=t.oth++[1]) (hcur:t'.cur=t.cur):RInv n t' { a with w:=updR a.w 0 false,x:=updR a.x 0 y }:=by
 obtain⟨hrw,hrf⟩:=RA.rw_is hr
 generalize hb:({ a with w:=updR a.w 0 false,x:=updR a.x 0 y }:RA)=b
 have bf:b.f=a.f:=by rw [<-hb]
 have bw:b.w=updR a.w 0 false:=by rw [<-hb]
 have bq:b.q=a.q:=by rw [<-hb]
 have bx:b.x=updR a.x 0 y:=by rw [<-hb]
 have rj:b.rw 0=false:=by unfold RA.rw;rw [bw,updR_self];rfl
 have rn:∀ i,i≠0->b.rw i=a.rw i:=fun i e=>by unfold RA.rw;rw [bf,bw,updR_ne _ e]
 have xa:∀ i,b.xw i=a.xw i:=fun i=>by
  unfold RA.xw;rw [bf,bw]
  by_cases e:i=0
  ·subst e;rw [updR_self,hrf];simp
  ·rw [updR_ne _ e]
 have hn':∀ i,i≠0->b.has i=a.has i:=fun i e=>by unfold RA.has;rw [bf,bw,updR_ne _ e]
 refine⟨sz.p.trans h.len,by rw [sz.v];exact h.vl,by rw [sz.c];exact h.cl,fun i hi=>?_,fun i hi=>?_,fun i hi hs=>?_,by rw [bf];exact h.f6,fun i hi hwi=>?_,fun i hi hr=>?_,fun i hi=>?_,fun p hcp=>?_,fun p hop=>?_,fun i hi hwi=>?_,?_,h.calm' cm⟩
 ·by_cases e:i=0
  ·subst e
   rw [hpj,h.tp _ hi]
   have x0:a.xw 0=false:=by unfold RA.xw;rw [hrf];simp
   unfold RA.tp
   rw [rj,xa,hr,bf,x0]
   rfl
  ·rw [hp i e,h.tp i hi]
   exact (RA.tp_eq (by rw [bf]) (rn i e) (xa i)).symm
 ·by_cases e:i=0
  ·subst e
   rw [hcj,h.ch _ hi]
   unfold RA.ch
   dsimp only
   rw [rj,bq]
   rfl
  ·rw [hch i e,h.ch i hi]
   exact (RA.ch_eq (by rw [bq]) (rn i e) (fun k _=>xa k)).symm
 ·rw [bx]
  by_cases e:i=0
  ·subst e;rw [updR_self];exact hvj
  ·rw [hv i hi e,updR_ne _ e]
   exact h.var i hi (by rw [<-hn' i e];exact hs)
 ·rw [bw] at hwi
  have e:i≠0:=fun e=>by subst e;rw [updR_self] at hwi;cases hwi
  rw [updR_ne _ e] at hwi
  rw [bf]
  exact h.wf i hi hwi
 ·have e:i≠0:=fun e=>by subst e;rw [rj] at hr;cases hr
  rw [rn i e] at hr
  rw [bq]
  exact h.q0 i hi hr
 ·rw [xa,bq]
  exact h.q1 i hi
 ·rw [hcur] at hcp
  obtain⟨i,i1,i2,i3,i4⟩:=h.cur p hcp
  have e:i≠0:=fun e=>by subst e;rw [hrw] at i3;cases i3
  refine⟨i,i1,i2,by rw [bw,updR_ne _ e];exact i3,?_⟩
  rw [ho,List.mem_append,List.mem_singleton,not_or]
  exact⟨i4,by omega⟩
 ·rw [ho,List.mem_append,List.mem_singleton] at hop
  rcases hop with hop|hop
  ·obtain⟨i,i1,i2,i3⟩:=h.oth p hop
   refine⟨i,i1,i2,?_⟩
   rw [bw]
   by_cases e:i=0
   ·subst e;exact updR_self _ _ _
   ·rw [updR_ne _ e];exact i3
  ·exact⟨0,h0,hop,by rw [bw,updR_self]⟩
 ·rw [hcur,ho,List.mem_append,List.mem_singleton]
  rw [bw] at hwi
  by_cases e:i=0
  ·subst e;exact .inr (.inr rfl)
  ·rw [updR_ne _ e] at hwi
   rcases h.rdy i hi hwi with x|x
   ·exact .inl x
   ·exact .inr (.inl x)
 ·rw [ho]
  refine List.nodup_append.2 ⟨h.nd,by simp,?_⟩
  intro p hpo q hq2 e
  rw [List.mem_singleton] at hq2
  obtain⟨i,i1,i2,i3⟩:=h.oth p hpo
  have:i=0:=by omega
  subst this
  rw [hrw] at i3;cases i3
theorem RInv.fedQ (h:RInv n t a) (hr:a.rw 0=false) (sz:Sizes t t') (cm:Calm t t') (hp:∀ i,t'.pr (i+1)=t.pr (i+1)) (hch:∀ i,i≠0->t'.chn (cR i)=t.chn (cR i)) (hcj:t'.chn (cR 0)={ t.chn (cR 0) with nums:=(t.chn (cR 0)).nums++[y] }) (hv:t'.vars=t.vars) (ho:t'.oth=t.oth) (hcur:t'.cur=t.cur):RInv n t' { a with q:=updR a.q 0 (a.q 0++[y]) }:=by
 refine⟨sz.p.trans h.len,by rw [sz.v];exact h.vl,by rw [sz.c];exact h.cl,fun i hi=>(hp i).trans (h.tp i hi),fun i hi=>?_,by rw [hv];exact h.var,h.f6,h.wf,fun i hi hri=>?_,fun i hi=>?_,by rw [hcur,ho];exact h.cur,by rw [ho];exact h.oth,by rw [hcur,ho];exact h.rdy,by rw [ho];exact h.nd,h.calm' cm⟩
 ·by_cases e:i=0
  ·subst e
   rw [hcj,h.ch _ hi]
   unfold RA.ch
   dsimp only
   rw [updR_self]
   rfl
  ·rw [hch i e,h.ch i hi]
   exact (RA.ch_eq (a:=a) (b:={ a with q:=updR a.q 0 (a.q 0++[y]) }) (updR_ne _ e _) rfl (fun k _=>rfl)).symm
 ·have e:i≠0:=fun e=>by subst e;have:a.rw 0=true:=hri;rw [hr] at this;cases this
  show updR a.q 0 _ i=[]
  rw [updR_ne _ e]
  exact h.q0 i hi hri
 ·have:=h.q1 i hi
  show if a.xw i=true then ∃ z,updR a.q 0 (a.q 0++[y]) (i+1)=[z] else updR a.q 0 (a.q 0++[y]) (i+1)=[]
  rw [updR_ne _ (by omega)]
  exact this
theorem RInv.taken {p:Nat} {r:List Nat} (h:RInv n t a) (hc:t.cur=none) (ho:t.oth=p :: r):RInv n { t with cur:=some p,oth:=r } a:=by
 have hnd:=h.nd
 rw [ho,List.nodup_cons] at hnd
 refine⟨h.len,h.vl,h.cl,h.tp,h.ch,h.var,h.f6,h.wf,h.q0,h.q1,fun q hq=>?_,fun q hq=>h.oth q (by rw [ho];exact List.mem_cons_of_mem _ hq),fun i hi hw=>?_,hnd.2,h.calm⟩
 ·have hq:some p=some q:=hq
  injection hq with hq
  subst hq
  obtain⟨i,i1,i2,i3⟩:=h.oth p (by rw [ho];simp)
  exact⟨i,i1,i2,i3,hnd.1⟩
 ·rcases h.rdy i hi hw with x|x
  ·rw [hc] at x;cases x
  ·rw [ho,List.mem_cons] at x
   rcases x with x|x
   ·exact .inl (by rw [x])
   ·exact .inr x
theorem RInv.outs (h:RInv n t a) (o:List Int):RInv n { t with out:=o } a:=⟨h.len,h.vl,h.cl,h.tp,h.ch,h.var,h.f6,h.wf,h.q0,h.q1,h.cur,h.oth,h.rdy,h.nd,h.calm⟩
end
end Go.Proofs.YtnhidaamfnjdjaaGreatDoor
namespace Go.Proofs.YtnhidaamfnjdjaaGreatDoor
open Go.RowKit Go.Maps
def offR (k:Nat):Nat:=if k=4∨k=5 then 0 else if k=2∨k=3 then 1 else 2
section
variable {a b : RA} {n j : Nat} {y : Int}
theorem rem_is (a:RA) (j:Nat):a.rem j=3 * (a.str j).length+offR (a.f j):=rfl
theorem str_at (a:RA):∀ j,a.str j=((a.hold j++a.q j)++(match j with|0=>[]|i+1=>a.str i)).map fun x=>w64 (x+((j:Int)+1))
 | 0=>by
  unfold RA.str
  rw [List.append_nil]
  rfl
 | j+1=>by
  conv=>lhs;unfold RA.str
  have e:(((j+1:Nat):Int)+1)=(j:Int)+2:=by omega
  rw [e]
theorem str_same (h:∀ i,b.hold i++b.q i=a.hold i++a.q i):∀ i,b.str i=a.str i
 | 0=>by rw [str_at,str_at,h]
 | i+1=>by
  rw [str_at b,str_at a,h]
  dsimp only
  rw [str_same h i]
theorem str_low (h:∀ i,i<j->b.hold i++b.q i=a.hold i++a.q i):∀ i,i<j->b.str i=a.str i
 | 0,hi=>by rw [str_at,str_at,h 0 hi]
 | i+1,hi=>by
  rw [str_at b,str_at a,h _ hi]
  dsimp only
  rw [str_low h i (by omega)]
theorem str_high (hj:b.str j=a.str j) (h:∀ i,j<i->b.hold i++b.q i=a.hold i++a.q i):∀ i,j≤i->b.str i=a.str i
 | 0,hi=>by
  obtain rfl:j=0:=by omega
  exact hj
 | i+1,hi=>by
  by_cases e:j=i+1
  ·rw [<-e];exact hj
  ·rw [str_at b,str_at a,h _ (by omega)]
   dsimp only
   rw [str_high hj h i (by omega)]
theorem all_upd (hf:∀ i,i≠j->b.f i=a.f i) (hs:∀ i,i≠j->(b.str i).length=(a.str i).length):∀ n,(j<n->b.all n+a.rem j=a.all n+b.rem j)∧(n≤j->b.all n=a.all n)
 | 0=>⟨fun h=>by omega,fun _=>rfl⟩
 | n+1=>by
  obtain⟨h1,h2⟩:=all_upd hf hs n
  have e:b.all (n+1)=b.all n+b.rem n:=rfl
  have e':a.all (n+1)=a.all n+a.rem n:=rfl
  refine⟨fun h=>?_,fun h=>?_⟩
  ·by_cases x:j=n
   ·subst x
    have:=h2 (Nat.le_refl _)
    omega
   ·have:=h1 (by omega)
    have r:b.rem n=a.rem n:=by rw [rem_is,rem_is,hf n (by omega),hs n (by omega)]
    omega
  ·have:=h2 (by omega)
   have r:b.rem n=a.rem n:=by rw [rem_is,rem_is,hf n (by omega),hs n (by omega)]
   omega
theorem all_same (hj:j<n) (hf:∀ i,i≠j->b.f i=a.f i) (h:∀ i,b.hold i++b.q i=a.hold i++a.q i):(∀ i,b.str i=a.str i)∧b.all n+offR (a.f j)=a.all n+offR (b.f j):=by
 have s:=str_same h
 refine⟨s,?_⟩
 have:=(all_upd hf (fun i _=>by rw [s i]) n).1 hj
 rw [rem_is,rem_is,s j] at this
 omega
theorem all_over (hj:j<n) (hf:∀ i,i≠j->b.f i=a.f i) (hfa:a.f j=5) (hfb:b.f j=6) {x:Int} (h1:a.hold j=[x]) (h2:b.hold j=[]) (h3:b.q j=a.q j) (hl:∀ i,i<j->b.hold i++b.q i=a.hold i++a.q i) (hn:b.hold (j+1)++b.q (j+1)=(a.hold (j+1)++a.q (j+1))++[w64 (x+((j:Int)+1))]) (hh:∀ i,j+1<i->b.hold i++b.q i=a.hold i++a.q i) :
  a.str j=w64 (x+((j:Int)+1)) :: b.str j∧(∀ i,i≠j->b.str i=a.str i)∧b.all n+1=a.all n:=by
 have low:=str_low hl
 have s1:a.str j=w64 (x+((j:Int)+1)) :: b.str j:=by
  rw [str_at a,str_at b,h1,h2,h3]
  cases j with
  | zero=>rfl
  | succ i =>
   dsimp only
   rw [low i (by omega)]
   rfl
 have s2:b.str (j+1)=a.str (j+1):=by
  rw [str_at b,str_at a,hn]
  dsimp only
  rw [s1]
  simp
 have hi:=str_high s2 hh
 have ss:∀ i,i≠j->b.str i=a.str i:=fun i e=>by
  rcases Nat.lt_or_ge i j with x|x
  ·exact low i x
  ·exact hi i (by omega)
 refine⟨s1,ss,?_⟩
 have:=(all_upd hf (fun i e=>by rw [ss i e]) n).1 hj
 rw [rem_is,rem_is,s1,hfa,hfb] at this
 unfold offR at this
 simp at this
 omega
theorem all_out (hj:j+1=n) (hf:∀ i,i≠j->b.f i=a.f i) (hfa:a.f j=5) (hfb:b.f j=6) {x:Int} (h1:a.hold j=[x]) (h2:b.hold j=[]) (h3:b.q j=a.q j) (hl:∀ i,i<j->b.hold i++b.q i=a.hold i++a.q i) :
  a.str j=w64 (x+((j:Int)+1)) :: b.str j∧b.all n+1=a.all n:=by
 subst hj
 have low:=str_low hl
 have s1:a.str j=w64 (x+((j:Int)+1)) :: b.str j:=by
  rw [str_at a,str_at b,h1,h2,h3]
  cases j with
  | zero=>rfl
  | succ i =>
   dsimp only
   rw [low i (by omega)]
   rfl
 refine⟨s1,?_⟩
 have key:∀ m,m≤j->b.all m=a.all m:=by
  intro m
  induction m with
  | zero=>intro _;rfl
  | succ m ih =>
   intro hm
   show b.all m+b.rem m=a.all m+a.rem m
   rw [ih (by omega),rem_is,rem_is,hf m (by omega),low m (by omega)]
 show b.all j+b.rem j+1=a.all j+a.rem j
 rw [key j (Nat.le_refl _),rem_is,rem_is,s1,hfa,hfb]
 unfold offR
 simp
 omega
def finR (y:Int):Nat->Int
 | 0=>w64 (y+1)
 | j+1=>w64 (finR y j+((j:Int)+2))
theorem all_fed (hf:∀ i,b.f i=a.f i) (h0:b.hold 0++b.q 0=(a.hold 0++a.q 0)++[y]) (h:∀ i,0<i->b.hold i++b.q i=a.hold i++a.q i):(∀ i,b.str i=a.str i++[finR y i])∧∀ n,b.all n=a.all n+3 * n:=by
 have s:∀ i,b.str i=a.str i++[finR y i]:=by
  intro i
  induction i with
  | zero =>
   rw [str_at,str_at,h0]
   simp [finR]
  | succ i ih =>
   rw [str_at b,str_at a,h _ (by omega)]
   dsimp only
   rw [ih]
   have e:(((i+1:Nat):Int)+1)=(i:Int)+2:=by omega
   rw [e]
   simp [finR]
 refine⟨s,fun n=>?_⟩
 induction n with
 | zero=>rfl
 | succ n ih =>
  show b.all n+b.rem n=a.all n+a.rem n+3 * (n+1)
  rw [ih,rem_is,rem_is,s n,hf n]
  simp
  omega
end
end Go.Proofs.YtnhidaamfnjdjaaGreatDoor
namespace Go.Proofs.YtnhidaamfnjdjaaGreatDoor
open Go.RowKit Go.Maps
section
variable {T : List PNode} {n j : Nat} {t t' : TS} {a : RA} {steps d : Int}
theorem turn_free {p:Nat} {t1:TS} (hc:t.cur=some p) (h:TS.free1 T t p=some t1):TS.turn T steps d t=.inl (d,t1):=by
 unfold TS.turn
 rw [hc]
 dsimp only
 rw [h]
theorem turn_step {p i k:Nat} {l:List (Nat×Nat)} (hc:t.cur=some p) (hp:(t.pr p).pile=(i,k) :: l) (h:TS.free1 T t p=none):TS.turn T steps d t=if steps≤d then .inr (d,t) else .inl (d+1,t.stepN T p i):=by
 unfold TS.turn
 rw [hc]
 dsimp only
 rw [h]
 dsimp only
 rw [hp]
theorem free_none {p i k:Nat} {l:List (Nat×Nat)} (hp:(t.pr p).pile=(i,k) :: l) (h1:(T.getD i default).kind≠7) (h2:(T.getD i default).kind≠15) (h3:(T.getD i default).kind≠16):TS.free1 T t p=none:=by
 unfold TS.free1
 rw [hp]
 dsimp only
 rw [if_neg h1,if_neg h2,if_neg h3]
theorem pop_is (t:TS) (p:Nat):t.pop p=t.setPr p { t.pr p with pile:=(t.pr p).pile.tail }:=rfl
def RGoes (n:Nat) (t:TS) (a:RA) (d d':Int) (t':TS):Prop:=∃ a',RInv n t' a'∧t'.out++a'.str (n - 1)=t.out++a.str (n - 1)∧(a'.all n:Int)+d'=a.all n+d∧d≤d'
theorem RInv.lt (h:RInv n t a) (hj:j<n):j+1<t.procs.length:=by rw [h.len];omega
theorem RInv.pr (h:RInv n t a) (hc:t.cur=some (j+1)):t.pr (j+1)=⟨pileR n j (a.f j),some 0,false,0,[],0,false⟩:=by
 obtain⟨hj,hw,_⟩:=h.idle hc
 rw [h.tp j hj]
 unfold RA.tp
 rw [RA.rw_of a hw,RA.xw_of a hw]
 rfl
theorem RInv.free (h:RInv n t a) (hc:t.cur=some (j+1)) (k:Nat) (hk:k≤6) (hh:∀ i,RA.has { a with f:=updR a.f j k } i=a.has i) (v:List Int) (hv:v.length=t.vars.length) (hvv:∀ i,i<n->i≠j∨k=4∨k=5->v.getD (vR n i) 0=t.vars.getD (vR n i) 0) (d d':Int) (hd:d≤d') (ho:(offR k:Int)+d'=offR (a.f j)+d) :
  RGoes n t a d d' (({ t with vars:=v }:TS).setPr (j+1) { t.pr (j+1) with pile:=pileR n j k }):=by
 obtain⟨hj,hw,_⟩:=h.idle hc
 have hh':k=4∨k=5->a.has j=true:=fun e=>by
  rw [<-hh j]
  unfold RA.has
  dsimp only
  rw [updR_self,hw]
  rcases e with rfl|rfl <;> rfl
 have r:=h.moved (t':=({ t with vars:=v }:TS).setPr (j+1) { t.pr (j+1) with pile:=pileR n j k }) hc k hk hh' _ rfl rfl rfl hv hvv rfl rfl ⟨rfl,rfl,rfl,rfl,rfl⟩
 have e:∀ i,RA.hold { a with f:=updR a.f j k } i++RA.q { a with f:=updR a.f j k } i=a.hold i++a.q i:=fun i=>by
  unfold RA.hold
  rw [hh i]
 obtain⟨s1,s2⟩:=all_same (b:={ a with f:=updR a.f j k }) hj (fun i e=>updR_ne _ e k) e
 refine⟨_,r,?_,?_,hd⟩
 ·rw [s1];rfl
 ·have e2:RA.f { a with f:=updR a.f j k } j=k:=updR_self _ _ _
  rw [e2] at s2
  omega
theorem has_upd (hw:a.w j=false) {k:Nat} (hk:(k=4∨k=5)↔(a.f j=4∨a.f j=5)):∀ i,RA.has { a with f:=updR a.f j k } i=a.has i:=fun i=>by
 unfold RA.has
 dsimp only
 by_cases e:i=j
 ·subst e
  rw [updR_self,hw]
  rw [Bool.eq_iff_iff]
  simp
  omega
 ·rw [updR_ne _ e]
theorem turn0 (rt:RowT T n) (h:RInv n t a) (hc:t.cur=some (j+1)) (hf:a.f j=0):∃ t',TS.turn T steps d t=.inl (d,t')∧RGoes n t a d d t':=by
 obtain⟨hj,hw,_⟩:=h.idle hc
 obtain⟨k1,k2,k3⟩:=rt.k0 j hj
 have pr:=h.pr hc
 rw [hf] at pr
 have hp:=h.lt hj
 have e:TS.free1 T t (j+1)=some (({ t with vars:=t.vars.set (vR n j) 0 }:TS).setPr (j+1) { t.pr (j+1) with pile:=pileR n j 1 }):=by
  have hpl:(t.pr (j+1)).pile=(bR n j,0) :: []:=by rw [pr];rfl
  unfold TS.free1
  rw [hpl]
  dsimp only
  rw [if_neg (by omega),if_pos k1,k2]
  unfold TS.down
  rw [pop_is,TS.push_set ({ t with vars:=t.vars.set ((vR n j:Nat):Int).toNat 0 }:TS) (p:=j+1) hp,k3]
  have:({ t with vars:=t.vars.set (vR n j) 0 }:TS).pr (j+1)=t.pr (j+1):=rfl
  rw [Int.toNat_natCast,this,pr]
  rfl
 refine⟨_,turn_free hc e,h.free hc 1 (by decide) (has_upd hw (by omega)) _ (by simp) (fun i hi x=>?_) d d (by omega) (by rw [hf];unfold offR;simp)⟩
 rcases x with x|x|x
 ·have:=vR_ne (n:=n) x
  simp [List.getD,show ¬ vR n j=vR n i by omega]
 ·omega
 ·omega
theorem turn1 (rt:RowT T n) (h:RInv n t a) (hc:t.cur=some (j+1)) (hf:a.f j=1) (hd:¬ steps≤d):∃ t',TS.turn T steps d t=.inl (d+1,t')∧RGoes n t a d (d+1) t':=by
 obtain⟨hj,hw,_⟩:=h.idle hc
 obtain⟨k1,k2,k3⟩:=rt.k1 j hj
 have pr:=h.pr hc
 rw [hf] at pr
 have hp:=h.lt hj
 have hpl:(t.pr (j+1)).pile=(bR n j+1,0) :: []:=by rw [pr];rfl
 have e:t.stepN T (j+1) (bR n j+1)=(({ t with vars:=t.vars }:TS).setPr (j+1) { t.pr (j+1) with pile:=pileR n j 2 }):=by
  unfold TS.stepN
  dsimp only
  rw [k1,k2]
  rw [if_neg (by decide),if_neg (by decide),if_neg (by decide),if_neg (by decide),if_neg (by decide),if_neg (by decide),if_neg (by decide),if_pos rfl]
  show (if (1:Int)=0 then t.pop (j+1) else ((t.pop (j+1)).push (j+1) (bR n j+1,0)).down T (j+1) (bR n j+1))=_
  rw [if_neg (by decide),pop_is,TS.push_set _ hp]
  unfold TS.down
  rw [TS.push_set _ hp,k3,pr]
  rfl
 refine⟨_,by rw [turn_step hc hpl (free_none hpl (by omega) (by omega) (by omega)),if_neg hd,e],h.free hc 2 (by decide) (has_upd hw (by omega)) _ rfl (fun i hi x=>rfl) d (d+1) (by omega) (by rw [hf];unfold offR;simp;omega)⟩
theorem turnS (rt:RowT T n) (h:RInv n t a) (hc:t.cur=some (j+1)) (hf:a.f j=2∨a.f j=4∨a.f j=6):∃ t',TS.turn T steps d t=.inl (d,t')∧RGoes n t a d d t':=by
 obtain⟨hj,hw,_⟩:=h.idle hc
 obtain⟨k1,k2⟩:=rt.k2 j hj
 have pr:=h.pr hc
 have hp:=h.lt hj
 have key:∀ (k k':Nat) (l:List (Nat×Nat)),pileR n j (a.f j)=(bR n j+2,k) :: l->(if k<2 then ([bR n j+3,bR n j+4].getD k 0,0) :: (bR n j+2,k+1) :: l else l)=pileR n j k'->TS.free1 T t (j+1)=some (({ t with vars:=t.vars }:TS).setPr (j+1) { t.pr (j+1) with pile:=pileR n j k' }):=by
  intro k k' l h1 h2
  rw [h1] at pr
  unfold TS.free1
  rw [pr]
  dsimp only
  rw [if_pos k1,k2,<-h2]
  by_cases hk:k<2
  ·rw [if_pos hk,if_pos (by exact hk),pop_is,TS.push_set _ hp,TS.push_set _ hp,pr]
   rfl
  ·rw [if_neg hk,if_neg (by exact hk),pop_is,pr]
   rfl
 rcases hf with hf|hf|hf
 ·exact⟨_,turn_free hc (key 0 3 [(bR n j+1,0)] (by rw [hf];rfl) rfl),h.free hc 3 (by decide) (has_upd hw (by omega)) _ rfl (fun i hi x=>rfl) d d (by omega) (by rw [hf];unfold offR;simp)⟩
 ·exact⟨_,turn_free hc (key 1 5 [(bR n j+1,0)] (by rw [hf];rfl) rfl),h.free hc 5 (by decide) (has_upd hw (by omega)) _ rfl (fun i hi x=>rfl) d d (by omega) (by rw [hf];unfold offR;simp)⟩
 ·exact⟨_,turn_free hc (key 2 1 [(bR n j+1,0)] (by rw [hf];rfl) rfl),h.free hc 1 (by decide) (has_upd hw (by omega)) _ rfl (fun i hi x=>rfl) d d (by omega) (by rw [hf];unfold offR;simp)⟩
end
end Go.Proofs.YtnhidaamfnjdjaaGreatDoor
