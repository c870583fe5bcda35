import Derived.Test.YtnhidaamfnjdjaaGreatDoorYRoA
namespace Go.Proofs.YtnhidaamfnjdjaaGreatDoor
open Go.RowKit Go.Maps
section
variable {T : List PNode} {n j : Nat} {t t' : TS} {a : RA} {steps d : Int}
theorem chn_of (t:TS) (c:Nat):t.ch (c:Int)=t.chn c:=by
 rw [ch_chn,Int.toNat_natCast]
theorem chn_set (t:TS) (c:Nat) (x:PCh) (k:Nat) (hc:c<t.chans.length):(t.setCh (c:Int) x).chn k=if k=c then x else t.chn k:=by
 rw [chn_setCh,Int.toNat_natCast]
 by_cases e:k=c
 ·rw [if_pos ⟨e,hc⟩,if_pos e]
 ·rw [if_neg (fun h=>e h.1),if_neg e]
theorem len_setCh (t:TS) (c:Int) (x:PCh):(t.setCh c x).chans.length=t.chans.length:=by unfold TS.setCh;simp
theorem getD_setV (l:List Int) (i k:Nat) (v:Int) (hi:i<l.length):(l.set i v).getD k 0=if k=i then v else l.getD k 0:=by
 simp only [List.getD,List.getElem?_set]
 by_cases e:i=k
 ·subst e
  rw [if_pos rfl,if_pos rfl,if_pos hi]
  rfl
 ·rw [if_neg e,if_neg (fun h=>e h.symm)]
theorem hold_of {a b:RA} {i:Nat} (hf:b.f i=a.f i) (hw:b.w i=a.w i) (hx:b.x i=a.x i):b.hold i=a.hold i:=by
 unfold RA.hold RA.has
 rw [hf,hw,hx]
theorem hold_yes {b:RA} {i:Nat} (h:(b.f i=4∧b.w i=false)∨b.f i=5):b.hold i=[b.x i]:=by
 unfold RA.hold
 rw [if_pos]
 unfold RA.has
 rcases h with ⟨h1,h2⟩|h
 ·rw [h1,h2];rfl
 ·rw [h];rfl
theorem hold_no {b:RA} {i:Nat} (h:b.f i≠5) (h2:b.f i=4->b.w i=true):b.hold i=[]:=by
 unfold RA.hold
 rw [if_neg]
 unfold RA.has
 simp
 exact⟨h2,h⟩
theorem turn3 (rt:RowT T n) (h:RInv n t a) (hc:t.cur=some (j+1)) (hf:a.f j=3) (hd:¬ steps≤d):∃ t',TS.turn T steps d t=.inl (d+1,t')∧RGoes n t a d (d+1) t':=by
 obtain⟨hj,hw,hno⟩:=h.idle hc
 obtain⟨k1,k2,k3,k4⟩:=rt.k3 j hj
 have pr:=h.pr hc
 rw [hf] at pr
 have hp:=h.lt hj
 have hpl:(t.pr (j+1)).pile=(bR n j+3,0) :: [(bR n j+2,1),(bR n j+1,0)]:=by rw [pr];rfl
 have hcl:cR j<t.chans.length:=Nat.lt_of_lt_of_le (cR_lt hj) h.cl
 have hvl:vR n j<t.vars.length:=Nat.lt_of_lt_of_le (vR_lt hj) h.vl
 have e0:t.stepN T (j+1) (bR n j+3)=(t.pop (j+1)).reads T (j+1) [bR n j+3]:=by
  unfold TS.stepN
  dsimp only
  rw [k1]
  rw [if_neg (by decide),if_neg (by decide),if_neg (by decide),if_neg (by decide),if_pos rfl]
  have:TS.opens T (t.pop (j+1)).vars [bR n j+3]=some [bR n j+3]:=by
   unfold TS.opens TS.opens
   rw [k4]
   rfl
  rw [this]
 rw [turn_step hc hpl (free_none hpl (by omega) (by omega) (by omega)),if_neg hd,e0]
 refine⟨_,rfl,?_⟩
 clear e0
 have ecn:(t.pop (j+1)).chn (cR j)=t.chn (cR j):=rfl
 have enu:(t.chn (cR j)).nums=a.q j:=by rw [h.ch j hj];rfl
 have y1:({ t.pr (j+1) with pile:=(t.pr (j+1)).pile.tail }:TP)={ t.pr (j+1) with pile:=pileR n j 4 }:=by rw [hpl];rfl
 unfold TS.reads
 rw [show (fun k=>!((t.pop (j+1)).ch (T.getD k default).cd).nums.isEmpty)=fun k=>!((t.pop (j+1)).ch (T.getD k default).cd).nums.isEmpty from rfl]
 cases hq:a.q j with
 | nil =>
  have hfd:List.find? (fun k=>!((t.pop (j+1)).ch (T.getD k default).cd).nums.isEmpty) [bR n j+3]=none:=by
   rw [List.find?_cons,k3,chn_of,ecn,enu,hq]
   rfl
  rw [hfd]
  dsimp only
  rw [List.foldl_cons,List.foldl_nil,k3,chn_of,ecn,pop_is,y1]
  have e1:((t.setPr (j+1) { t.pr (j+1) with pile:=pileR n j 4 }).setCh (cR j:Int) { t.chn (cR j) with rd:=some (j+1) })=(t.setCh (cR j:Int) { t.chn (cR j) with rd:=some (j+1) }).setPr (j+1) { t.pr (j+1) with pile:=pileR n j 4 }:=rfl
  rw [e1]
  have hp':j+1<(t.setCh (cR j:Int) { t.chn (cR j) with rd:=some (j+1) }).procs.length:=hp
  rw [TS.pr_self hp',TS.set_set]
  unfold TS.wait
  rw [TS.pr_self hp',TS.set_set]
  have r:=h.rwaits (t':=((t.setCh (cR j:Int) { t.chn (cR j) with rd:=some (j+1) }).setPr (j+1) { t.pr (j+1) with pile:=pileR n j 4,opn:=[bR n j+3],told:=2 }).leave) hc hf hq ⟨TS.len_set _ _ _,rfl,len_setCh _ _ _⟩ ⟨rfl,rfl,rfl,rfl,rfl⟩ (fun i e=>TS.pr_ne (t.setCh (cR j:Int) { t.chn (cR j) with rd:=some (j+1) }) (by omega) _) (TS.pr_self hp' _)
   (fun i e=>by show (t.setCh (cR j:Int) _).chn (cR i)=_;rw [chn_set _ _ _ _ hcl,if_neg (cR_ne e)]) (by show (t.setCh (cR j:Int) _).chn (cR j)=_;rw [chn_set _ _ _ _ hcl,if_pos rfl]) rfl rfl rfl
  have hs:∀ i,RA.hold { a with f:=updR a.f j 4,w:=updR a.w j true } i++RA.q { a with f:=updR a.f j 4,w:=updR a.w j true } i=a.hold i++a.q i:=fun i=>by
   by_cases e:i=j
   ·subst e
    rw [hold_no (b:=a) (by omega) (by omega),hold_no (b:={ a with f:=updR a.f i 4,w:=updR a.w i true }) (by show updR a.f i 4 i≠5;rw [updR_self];decide) (fun _=>updR_self _ _ _)]
   ·rw [hold_of (a:=a) (b:={ a with f:=updR a.f j 4,w:=updR a.w j true }) (updR_ne _ e 4) (updR_ne _ e true) rfl]
  refine⟨_,r,?_,?_,by omega⟩
  ·rw [(all_same (a:=a) (b:={ a with f:=updR a.f j 4,w:=updR a.w j true }) hj (fun i e=>updR_ne _ e 4) ?_).1]
   ·rfl
   ·exact hs
  ·have:=(all_same (a:=a) (b:={ a with f:=updR a.f j 4,w:=updR a.w j true }) hj (fun i e=>updR_ne _ e 4) ?_).2
   ·rw [show RA.f { a with f:=updR a.f j 4,w:=updR a.w j true } j=4 from updR_self _ _ _,hf] at this
    unfold offR at this
    simp at this
    omega
   ·exact hs
 | cons y r =>
  have hfd:List.find? (fun k=>!((t.pop (j+1)).ch (T.getD k default).cd).nums.isEmpty) [bR n j+3]=some (bR n j+3):=by
   rw [List.find?_cons,k3,chn_of,ecn,enu,hq]
   rfl
  rw [hfd]
  dsimp only
  rw [k3]
  have hk14:¬ (T.getD (bR n j+3) default).kind=14:=by omega
  have ehd:(t.chn (cR j)).nums.headD 0=y:=by rw [enu,hq];rfl
  have etl:(t.chn (cR j)).nums.tail=r:=by rw [enu,hq];rfl
  have t1c:∀ (X:PCh),((t.pop (j+1)).setCh (cR j:Int) X).ch (cR j:Int)=X:=fun X=>by
   rw [chn_of,chn_set (t.pop (j+1)) _ _ _ hcl,if_pos rfl]
  have fol:∀ (U:TS),j+1<U.procs.length->U.pr (j+1)={ t.pr (j+1) with pile:=pileR n j 4 }->U.follow T (j+1) (bR n j+3) y=({ U with vars:=U.vars.set (vR n j) y }:TS).setPr (j+1) { t.pr (j+1) with pile:=pileR n j 4 }:=fun U hU hpr=>by
   rw [TS.follow_is U hU,k2,Int.toNat_natCast,hpr]
   unfold afterR
   rw [if_neg hk14]
   have:(t.pr (j+1)).opn=[]:=by rw [pr]
   rw [<-this]
  cases j with
  | zero =>
   have hwr:(t.chn (cR 0)).wr=none:=by rw [h.ch 0 hj];rfl
   have hrc:(t.pop 1).receive T (cR 0:Int)=(y,(t.pop 1).setCh (cR 0:Int) { t.chn (cR 0) with nums:=r }):=by
    unfold TS.receive
    dsimp only
    rw [chn_of (t.pop 1),show (t.pop 1).chn (cR 0)=t.chn (cR 0) from rfl,ehd,etl,t1c]
    dsimp only
    rw [hwr]
   rw [hrc]
   dsimp only
   rw [fol ((t.pop 1).setCh (cR 0:Int) { t.chn (cR 0) with nums:=r }) (by show 1<(t.pop 1).procs.length;rw [pop_is,TS.len_set];exact hp) (by show (t.pop 1).pr 1=_;rw [pop_is,y1];exact TS.pr_self hp _)]
   rw [pop_is,y1]
   have e1:((({ ((t.setPr 1 { t.pr 1 with pile:=pileR n 0 4 }).setCh (cR 0:Int) { t.chn (cR 0) with nums:=r }) with vars:=(((t.setPr 1 { t.pr 1 with pile:=pileR n 0 4 }).setCh (cR 0:Int) { t.chn (cR 0) with nums:=r })).vars.set (vR n 0) y }:TS)).setPr 1 { t.pr 1 with pile:=pileR n 0 4 })=({ (t.setCh (cR 0:Int) { t.chn (cR 0) with nums:=r }) with vars:=t.vars.set (vR n 0) y }:TS).setPr 1 { t.pr 1 with pile:=pileR n 0 4 }:=by
    exact TS.set_set ({ (t.setCh (cR 0:Int) { t.chn (cR 0) with nums:=r }) with vars:=t.vars.set (vR n 0) y }:TS) 1 _ _
   rw [e1]
   have rr:=h.reads0 (y:=y) (r:=r) (t':=({ (t.setCh (cR 0:Int) { t.chn (cR 0) with nums:=r }) with vars:=t.vars.set (vR n 0) y }:TS).setPr 1 { t.pr 1 with pile:=pileR n 0 4 }) hc ⟨TS.len_set _ _ _,by show (t.vars.set _ _).length=_;simp,len_setCh _ _ _⟩ ⟨rfl,rfl,rfl,rfl,rfl⟩ (fun i e=>TS.pr_ne ({ (t.setCh (cR 0:Int) { t.chn (cR 0) with nums:=r }) with vars:=t.vars.set (vR n 0) y }:TS) (by omega) _) (TS.pr_self (t:=({ (t.setCh (cR 0:Int) { t.chn (cR 0) with nums:=r }) with vars:=t.vars.set (vR n 0) y }:TS)) hp _)
    (fun i e=>by show (t.setCh (cR 0:Int) _).chn (cR i)=_;rw [chn_set _ _ _ _ hcl,if_neg (cR_ne e)]) (by show (t.setCh (cR 0:Int) _).chn (cR 0)=_;rw [chn_set _ _ _ _ hcl,if_pos rfl]) (fun i hi e=>by show (t.vars.set (vR n 0) y).getD _ 0=_;rw [getD_setV _ _ _ _ hvl,if_neg (vR_ne e)]) (by show (t.vars.set (vR n 0) y).getD _ 0=_;rw [getD_setV _ _ _ _ hvl,if_pos rfl]) rfl rfl
   have hs:=all_same (a:=a) (b:={ a with f:=updR a.f 0 4,x:=updR a.x 0 y,q:=updR a.q 0 r }) hj (fun i e=>updR_ne _ e 4) (fun i=>by
    by_cases e:i=0
    ·subst e
     rw [hold_no (b:=a) (by omega) (by omega),hold_yes (b:={ a with f:=updR a.f 0 4,x:=updR a.x 0 y,q:=updR a.q 0 r }) (.inl ⟨updR_self _ _ _,hw⟩),hq]
     show [updR a.x 0 y 0]++updR a.q 0 r 0=_
     rw [updR_self,updR_self]
     rfl
    ·rw [hold_of (a:=a) (b:={ a with f:=updR a.f 0 4,x:=updR a.x 0 y,q:=updR a.q 0 r }) (updR_ne _ e 4) rfl (updR_ne _ e y)]
     show a.hold i++updR a.q 0 r i=_
     rw [updR_ne _ e])
   refine⟨_,rr,by rw [hs.1];rfl,?_,by omega⟩
   have:=hs.2
   rw [show RA.f { a with f:=updR a.f 0 4,x:=updR a.x 0 y,q:=updR a.q 0 r } 0=4 from updR_self a.f 0 4,hf] at this
   unfold offR at this
   simp at this
   omega
  | succ i0 =>
   have hq1:=h.q1 i0 hj
   have hx:a.xw i0=true:=by
    by_cases hx:a.xw i0=true
    ·exact hx
    ·rw [if_neg hx,hq] at hq1;cases hq1
   rw [if_pos hx,hq] at hq1
   obtain⟨y',hy'⟩:=hq1
   injection hy' with hy1 hy2
   subst hy1;subst hy2
   have hwr:(t.chn (cR (i0+1))).wr=some (i0+1):=by
    rw [h.ch _ hj]
    unfold RA.ch
    dsimp only
    rw [if_pos hx]
   have hpi:i0+1<t.procs.length:=by omega
   have hti:t.pr (i0+1)=a.tp n i0:=h.tp i0 (by omega)
   have hxw:a.w i0=true∧a.f i0=6:=by
    unfold RA.xw at hx
    rw [Bool.and_eq_true,beq_iff_eq] at hx
    exact hx
   have hrn:a.rw i0=false:=by unfold RA.rw;rw [hxw.2];simp
   have htold:(t.pr (i0+1)).told=1:=by rw [hti];unfold RA.tp;rw [hrn,hx];rfl
   have hurg:(t.pr (i0+1)).urg=false:=by rw [hti];rfl
   generalize hX:({ t.chn (cR (i0+1)) with nums:=[] }:PCh)=X at *
   have hX1:X.wr=some (i0+1):=by rw [<-hX];exact hwr
   generalize hU:((t.pop (i0+1+1)).setCh (cR (i0+1):Int) X).setCh (cR (i0+1):Int) { X with wr:=none }=U
   have hUp:∀ k,U.pr k=(t.pop (i0+1+1)).pr k:=fun k=>by rw [<-hU];rfl
   have hUi:U.pr (i0+1)=t.pr (i0+1):=by rw [hUp,pop_is,TS.pr_ne _ (by omega)]
   have hUl:U.procs.length=t.procs.length:=by rw [<-hU];exact TS.len_set _ _ _
   have hrc:(t.pop (i0+1+1)).receive T (cR (i0+1):Int)=(y,U.goOn (i0+1)):=by
    unfold TS.receive
    dsimp only
    rw [chn_of (t.pop (i0+1+1)),show (t.pop (i0+1+1)).chn (cR (i0+1))=t.chn (cR (i0+1)) from rfl,ehd,etl,hX,t1c,hX1]
    dsimp only
    rw [hU]
    unfold TS.tell
    rw [hUi,htold,if_neg (by decide)]
   have hgo:=TS.goOn_is U (p:=i0+1) (by rw [hUl];exact hpi)
   rw [hUi,hurg,if_neg (by decide),if_neg (by decide)] at hgo
   have hlg:(U.goOn (i0+1)).procs.length=t.procs.length:=by rw [hgo];simp [hUl]
   have hpg:(U.goOn (i0+1)).pr (i0+1+1)={ t.pr (i0+1+1) with pile:=pileR n (i0+1) 4 }:=by
    rw [hgo]
    show (U.setPr (i0+1) _).pr (i0+1+1)=_
    rw [TS.pr_ne _ (by omega),hUp,pop_is,y1]
    exact TS.pr_self hp _
   rw [hrc]
   dsimp only
   rw [fol _ (by rw [hlg];exact hp) hpg]
   have hch:U.chans=(t.setCh (cR (i0+1):Int) { X with wr:=none }).chans:=by
    rw [<-hU]
    show (t.chans.set _ _).set _ _=t.chans.set _ _
    rw [List.set_set]
   have hcn:∀ k,U.chn k=if k=cR (i0+1) then { X with wr:=none } else t.chn k:=fun k=>by
    have:U.chn k=(t.setCh (cR (i0+1):Int) { X with wr:=none }).chn k:=by unfold TS.chn;rw [hch]
    rw [this,chn_set _ _ _ _ hcl]
   generalize hV:({ U.goOn (i0+1) with vars:=(U.goOn (i0+1)).vars.set (vR n (i0+1)) y }:TS)=V
   have hVv:V.vars=t.vars.set (vR n (i0+1)) y:=by rw [<-hV,hgo,<-hU];rfl
   have hVc:∀ k,V.chn k=U.chn k:=fun k=>by rw [<-hV,hgo];rfl
   have hVp:∀ k,V.pr k=(U.setPr (i0+1) { t.pr (i0+1) with told:=0 }).pr k:=fun k=>by rw [<-hV,hgo];rfl
   have hVl:V.procs.length=t.procs.length:=by rw [<-hV];exact hlg
   have hVo:V.oth=t.oth++[i0+1]:=by rw [<-hV,hgo,<-hU];rfl
   have hVr:V.cur=t.cur∧V.out=t.out∧Calm t V:=by rw [<-hV,hgo,<-hU];exact⟨rfl,rfl,⟨rfl,rfl,rfl,rfl,rfl⟩⟩
   have hVh:V.chans.length=t.chans.length:=by rw [<-hV,hgo];show U.chans.length=_;rw [hch];exact len_setCh _ _ _
   have rr:=h.reads1 (y:=y) (i0:=i0) (t':=V.setPr (i0+1+1) { t.pr (i0+1+1) with pile:=pileR n (i0+1) 4 }) hc hf hx hq ⟨by rw [TS.len_set];exact hVl,by show V.vars.length=_;rw [hVv];simp,hVh⟩ ⟨hVr.2.2.urg,hVr.2.2.asleep,hVr.2.2.faulty,hVr.2.2.ended,hVr.2.2.time⟩
    (fun i e1 e2=>by rw [TS.pr_ne _ (by omega),hVp,TS.pr_ne _ (by omega),hUp,pop_is,TS.pr_ne _ (by omega)]) (TS.pr_self (by rw [hVl];exact hp) _) (by rw [TS.pr_ne _ (by omega),hVp];exact TS.pr_self (by rw [hUl];exact hpi) _)
    (fun i e=>by show V.chn (cR i)=_;rw [hVc,hcn,if_neg (cR_ne e)]) (by show V.chn (cR (i0+1))=_;rw [hVc,hcn,if_pos rfl,<-hX]) (fun i hi e=>by show V.vars.getD _ 0=_;rw [hVv,getD_setV _ _ _ _ hvl,if_neg (vR_ne e)]) (by show V.vars.getD _ 0=_;rw [hVv,getD_setV _ _ _ _ hvl,if_pos rfl]) hVo hVr.1
   have hs:=all_same (a:=a) (b:={ a with f:=updR a.f (i0+1) 4,w:=updR a.w i0 false,x:=updR a.x (i0+1) y,q:=updR a.q (i0+1) [] }) hj (fun i e=>updR_ne _ e 4) (fun i=>by
    by_cases e:i=i0+1
    ·subst e
     rw [hold_no (b:=a) (by omega) (by omega),hold_yes (b:={ a with f:=updR a.f (i0+1) 4,w:=updR a.w i0 false,x:=updR a.x (i0+1) y,q:=updR a.q (i0+1) [] }) (.inl ⟨updR_self _ _ _,by show updR a.w i0 false (i0+1)=false;rw [updR_ne _ (by omega)];exact hw⟩),hq]
     show [updR a.x (i0+1) y (i0+1)]++updR a.q (i0+1) [] (i0+1)=_
     rw [updR_self,updR_self]
     rfl
    ·have hq2:RA.q { a with f:=updR a.f (i0+1) 4,w:=updR a.w i0 false,x:=updR a.x (i0+1) y,q:=updR a.q (i0+1) [] } i=a.q i:=updR_ne _ e _
     rw [hq2]
     by_cases e2:i=i0
     ·subst e2
      rw [hold_no (b:=a) (by omega) (by omega),hold_no (b:={ a with f:=updR a.f (i+1) 4,w:=updR a.w i false,x:=updR a.x (i+1) y,q:=updR a.q (i+1) [] }) (by show updR a.f (i+1) 4 i≠5;rw [updR_ne _ e];omega) (fun h=>by have h:updR a.f (i+1) 4 i=4:=h;rw [updR_ne _ e] at h;omega)]
     ·rw [hold_of (a:=a) (b:={ a with f:=updR a.f (i0+1) 4,w:=updR a.w i0 false,x:=updR a.x (i0+1) y,q:=updR a.q (i0+1) [] }) (updR_ne _ e 4) (updR_ne _ e2 false) (updR_ne _ e y)])
   refine⟨_,rr,by rw [hs.1];show V.out++_=_;rw [hVr.2.1],?_,by omega⟩
   have:=hs.2
   rw [show RA.f { a with f:=updR a.f (i0+1) 4,w:=updR a.w i0 false,x:=updR a.x (i0+1) y,q:=updR a.q (i0+1) [] } (i0+1)=4 from updR_self _ _ _,hf] at this
   unfold offR at this
   simp at this
   omega
end
end Go.Proofs.YtnhidaamfnjdjaaGreatDoor
namespace Go.Proofs.YtnhidaamfnjdjaaGreatDoor
open Go.RowKit Go.Maps
section
variable {T : List PNode} {n j : Nat} {t t' : TS} {a : RA} {steps d : Int}
theorem cR_big (j:Nat):((cR (j+1):Nat):Int)≠2:=by unfold cR;rw [if_neg (by omega)];omega
theorem turn5 (rt:RowT T n) (h:RInv n t a) (hc:t.cur=some (j+1)) (hf:a.f j=5) (hd:¬ steps≤d):∃ t',TS.turn T steps d t=.inl (d+1,t')∧RGoes n t a d (d+1) t':=by
 obtain⟨hj,hw,hno⟩:=h.idle hc
 obtain⟨k1,k2,sx,k3⟩:=rt.k4 j hj
 have pr:=h.pr hc
 rw [hf] at pr
 have hp:=h.lt hj
 have hpl:(t.pr (j+1)).pile=(bR n j+4,0) :: [(bR n j+2,2),(bR n j+1,0)]:=by rw [pr];rfl
 have hhas:a.has j=true:=by unfold RA.has;rw [hf];rfl
 have hva:=h.var j hj hhas
 have y1:({ t.pr (j+1) with pile:=(t.pr (j+1)).pile.tail }:TP)={ t.pr (j+1) with pile:=pileR n j 6 }:=by rw [hpl];rfl
 have hev:evalE (t.pop (j+1)).vars (T.getD (bR n j+4) default).expr=some (w64 (a.x j+((j:Int)+1))):=by
  rw [k3]
  show opE 43 (t.vars.getD ((vR n j:Nat):Int).toNat 0) ((j:Int)+1)=_
  rw [Int.toNat_natCast,hva]
  rfl
 generalize hy:w64 (a.x j+((j:Int)+1))=y at *
 have e0:t.stepN T (j+1) (bR n j+4)=if (T.getD (bR n j+4) default).cd=2 then { t.pop (j+1) with out:=(t.pop (j+1)).out++[y] } else match (t.pop (j+1)).send T (T.getD (bR n j+4) default).cd y with
   | (true,t1)=>t1
   | (false,t1)=>(t1.setCh (T.getD (bR n j+4) default).cd { t1.ch (T.getD (bR n j+4) default).cd with wr:=some (j+1) }).wait (j+1) 1:=by
  conv=>lhs;unfold TS.stepN
  dsimp only
  rw [k1]
  rw [if_neg (by decide),if_neg (by decide),if_neg (by decide),if_pos rfl,hev]
  rfl
 rw [turn_step hc hpl (free_none hpl (by omega) (by omega) (by omega)),if_neg hd,e0]
 refine⟨_,rfl,?_⟩
 clear e0 hev
 have hha:a.hold j=[a.x j]:=hold_yes (.inr hf)
 by_cases hlast:j+1=n
 ·rw [k2,if_pos hlast,if_pos rfl,pop_is,y1]
  have hcalm:Calm t ({ t.setPr (j+1) { t.pr (j+1) with pile:=pileR n j 6 } with out:=t.out++[y] }:TS):=⟨rfl,rfl,rfl,rfl,rfl⟩
  have r:=h.moved (t':=({ t.setPr (j+1) { t.pr (j+1) with pile:=pileR n j 6 } with out:=t.out++[y] }:TS)) hc 6 (by decide) (fun h=>by omega) _ rfl rfl rfl rfl (fun i hi x=>rfl) rfl rfl hcalm
  obtain⟨s1,s2⟩:=all_out (a:=a) (b:={ a with f:=updR a.f j 6 }) hlast (fun i e=>updR_ne _ e 6) hf (updR_self _ _ _) hha (hold_no (b:={ a with f:=updR a.f j 6 }) (by show updR a.f j 6 j≠5;rw [updR_self];decide) (fun h=>by have h:updR a.f j 6 j=4:=h;rw [updR_self] at h;cases h)) rfl (fun i hi=>by rw [hold_of (a:=a) (b:={ a with f:=updR a.f j 6 }) (updR_ne _ (by omega) 6) rfl rfl])
  have en:n - 1=j:=by omega
  refine⟨_,r,?_,by omega,by omega⟩
  rw [en,s1,hy]
  show (t.out++[y])++_=_
  rw [List.append_assoc]
  rfl
 ·have hj1:j+1<n:=by omega
  rw [k2,if_neg hlast,if_neg (cR_big j)]
  have hcl:cR (j+1)<t.chans.length:=Nat.lt_of_lt_of_le (cR_lt hj1) h.cl
  have hvl:vR n (j+1)<t.vars.length:=Nat.lt_of_lt_of_le (vR_lt hj1) h.vl
  have ecn:(t.pop (j+1)).chn (cR (j+1))=t.chn (cR (j+1)):=rfl
  have hchj:=h.ch (j+1) hj1
  cases hr:a.rw (j+1) with
  | false =>
   have hrd:(t.chn (cR (j+1))).rd=none:=by rw [hchj];unfold RA.ch;rw [hr];rfl
   have hsd:(t.pop (j+1)).send T (cR (j+1):Int) y=(false,(t.pop (j+1)).setCh (cR (j+1):Int) { t.chn (cR (j+1)) with nums:=(t.chn (cR (j+1))).nums++[y] }):=by
    unfold TS.send
    rw [chn_of,ecn,hrd]
   rw [hsd]
   dsimp only
   generalize hX:({ t.chn (cR (j+1)) with nums:=(t.chn (cR (j+1))).nums++[y] }:PCh)=X
   have t1c:((t.pop (j+1)).setCh (cR (j+1):Int) X).ch (cR (j+1):Int)=X:=by rw [chn_of,chn_set (t.pop (j+1)) _ _ _ hcl,if_pos rfl]
   rw [t1c,pop_is,y1]
   have e1:((t.setPr (j+1) { t.pr (j+1) with pile:=pileR n j 6 }).setCh (cR (j+1):Int) X).setCh (cR (j+1):Int) { X with wr:=some (j+1) }=(t.setCh (cR (j+1):Int) { X with wr:=some (j+1) }).setPr (j+1) { t.pr (j+1) with pile:=pileR n j 6 }:=by
    unfold TS.setCh TS.setPr
    dsimp only
    rw [List.set_set]
   rw [e1]
   have hp':j+1<(t.setCh (cR (j+1):Int) { X with wr:=some (j+1) }).procs.length:=hp
   unfold TS.wait
   rw [TS.pr_self hp',TS.set_set]
   have r:=h.xwaits (y:=y) (t':=((t.setCh (cR (j+1):Int) { X with wr:=some (j+1) }).setPr (j+1) { t.pr (j+1) with pile:=pileR n j 6,told:=1 }).leave) hc hf hj1 hr ⟨TS.len_set _ _ _,rfl,len_setCh _ _ _⟩ ⟨rfl,rfl,rfl,rfl,rfl⟩ (fun i e=>TS.pr_ne (t.setCh (cR (j+1):Int) { X with wr:=some (j+1) }) (by omega) _) (TS.pr_self hp' _)
    (fun i e=>by show (t.setCh (cR (j+1):Int) _).chn (cR i)=_;rw [chn_set _ _ _ _ hcl,if_neg (cR_ne e)]) (by show (t.setCh (cR (j+1):Int) _).chn (cR (j+1))=_;rw [chn_set _ _ _ _ hcl,if_pos rfl,<-hX]) rfl rfl rfl
   generalize hb:({ a with f:=updR a.f j 6,w:=updR a.w j true,q:=updR a.q (j+1) [y] }:RA)=b at *
   have bf:b.f=updR a.f j 6:=by rw [<-hb]
   have bw:b.w=updR a.w j true:=by rw [<-hb]
   have bq:b.q=updR a.q (j+1) [y]:=by rw [<-hb]
   have bx:b.x=a.x:=by rw [<-hb]
   have hq0:a.q (j+1)=[]:=by
    have:=h.q1 j hj1
    rw [if_neg (by rw [RA.xw_of a hw];simp)] at this
    exact this
   have ho:∀ i,i≠j->b.hold i=a.hold i:=fun i e=>hold_of (by rw [bf,updR_ne _ e]) (by rw [bw,updR_ne _ e]) (by rw [bx])
   obtain⟨s1,s2,s3⟩:=all_over (a:=a) (b:=b) hj (fun i e=>by rw [bf,updR_ne _ e]) hf (by rw [bf,updR_self]) hha (hold_no (by rw [bf,updR_self];decide) (fun h=>by rw [bf,updR_self] at h;cases h)) (by rw [bq,updR_ne _ (by omega)]) (fun i hi=>by rw [ho i (by omega),bq,updR_ne _ (by omega)]) (by rw [ho (j+1) (by omega),bq,updR_self,hq0,hy,List.append_nil]) (fun i hi=>by rw [ho i (by omega),bq,updR_ne _ (by omega)])
   refine⟨b,r,?_,by omega,by omega⟩
   rw [s2 (n - 1) (by omega)]
   rfl
  | true =>
   obtain⟨hrw,hrf⟩:=RA.rw_is hr
   have hrd:(t.chn (cR (j+1))).rd=some (j+1+1):=by rw [hchj];unfold RA.ch;rw [hr];rfl
   have hpi:j+1+1<t.procs.length:=by rw [h.len];omega
   have hti:t.pr (j+1+1)=a.tp n (j+1):=h.tp (j+1) hj1
   have htold:(t.pr (j+1+1)).told=2:=by rw [hti];unfold RA.tp;rw [hr];rfl
   have hopn:(t.pr (j+1+1)).opn=[bR n (j+1)+3]:=by rw [hti];unfold RA.tp;rw [hr];rfl
   have hurg:(t.pr (j+1+1)).urg=false:=by rw [hti];rfl
   obtain⟨m1,m2,m3,m4⟩:=rt.k3 (j+1) hj1
   have hpp:(t.pop (j+1)).pr (j+1+1)=t.pr (j+1+1):=by rw [pop_is,TS.pr_ne _ (by omega)]
   have hlp:(t.pop (j+1)).procs.length=t.procs.length:=by rw [pop_is,TS.len_set]
   generalize hX:({ t.chn (cR (j+1)) with rd:=none }:PCh)=X
   generalize hU:(t.pop (j+1)).setCh (cR (j+1):Int) X=U
   have hUp:∀ k,U.pr k=(t.pop (j+1)).pr k:=fun k=>by rw [<-hU];rfl
   have hUl:U.procs.length=t.procs.length:=by rw [<-hU];exact hlp
   generalize hV:({ U with vars:=U.vars.set (vR n (j+1)) y }:TS).setPr (j+1+1) { t.pr (j+1+1) with opn:=[] }=V
   have hsd:(t.pop (j+1)).send T (cR (j+1):Int) y=(true,V.goOn (j+1+1)):=by
    unfold TS.send
    rw [chn_of,ecn,hrd]
    dsimp only
    unfold TS.tell
    rw [hpp,htold,if_pos rfl]
    unfold TS.hasRead
    dsimp only
    rw [hpp,hopn,List.foldl_cons,List.foldl_nil]
    have e1:TS.unread T (t.pop (j+1)) (bR n (j+1)+3)=U:=by
     unfold TS.unread
     rw [m3,chn_of,ecn,hX,hU]
    rw [e1]
    have e2:List.find? (fun k=>(T.getD k default).cd == (cR (j+1):Int)) [bR n (j+1)+3]=some (bR n (j+1)+3):=by
     rw [List.find?_cons,m3]
     simp
    rw [e2]
    dsimp only
    rw [TS.follow_is U (by rw [hUl];exact hpi),m2,Int.toNat_natCast,hUp,hpp]
    unfold afterR
    rw [if_neg (by omega),hV]
   have hVi:V.pr (j+1+1)={ t.pr (j+1+1) with opn:=[] }:=by rw [<-hV];exact TS.pr_self (by show _<U.procs.length;rw [hUl];exact hpi) _
   have hVl:V.procs.length=t.procs.length:=by rw [<-hV,TS.len_set];exact hUl
   have hgo:=TS.goOn_is V (p:=j+1+1) (by rw [hVl];exact hpi)
   have hVu:({ t.pr (j+1+1) with opn:=[] }:TP).urg=false:=hurg
   rw [hVi,hVu,if_neg (by decide),if_neg (by decide)] at hgo
   rw [hsd]
   dsimp only
   generalize hW:V.goOn (j+1+1)=W at *
   have hWp:∀ k,W.pr k=(V.setPr (j+1+1) { t.pr (j+1+1) with told:=0,opn:=[] }).pr k:=fun k=>by rw [hgo];rfl
   have hWv:W.vars=t.vars.set (vR n (j+1)) y:=by rw [hgo,<-hV,<-hU];rfl
   have hWc:∀ k,W.chn k=if k=cR (j+1) then X else t.chn k:=fun k=>by
    have e:W.chn k=U.chn k:=by rw [hgo,<-hV];rfl
    rw [e,<-hU,chn_set (t.pop (j+1)) _ _ _ hcl]
    rfl
   have hWr:W.cur=t.cur∧W.out=t.out∧W.oth=t.oth++[j+1+1]∧Calm t W:=by rw [hgo,<-hV,<-hU];exact⟨rfl,rfl,rfl,⟨rfl,rfl,rfl,rfl,rfl⟩⟩
   have hWl:W.procs.length=t.procs.length:=by rw [hgo];simp [hVl]
   have hWh:W.chans.length=t.chans.length:=by rw [hgo,<-hV,<-hU];exact len_setCh (t.pop (j+1)) _ _
   have hVp:∀ k,k≠j+1+1->V.pr k=(t.pop (j+1)).pr k:=fun k e=>by rw [<-hV,TS.pr_ne _ e];exact hUp k
   have r:=h.hands (y:=y) (t':=W) hc hj1 hr ⟨hWl,by rw [hWv];simp,hWh⟩ hWr.2.2.2 (fun i e1 e2=>by rw [hWp,TS.pr_ne _ (by omega),hVp _ (by omega),pop_is,TS.pr_ne _ (by omega)]) (by rw [hWp,TS.pr_ne _ (by omega),hVp _ (by omega),pop_is,y1];exact TS.pr_self hp _) (by rw [hWp];exact TS.pr_self (by rw [hVl];exact hpi) _)
    (fun i e=>by rw [hWc,if_neg (cR_ne e)]) (by rw [hWc,if_pos rfl,<-hX]) (fun i hi e=>by rw [hWv,getD_setV _ _ _ _ hvl,if_neg (vR_ne e)]) (by rw [hWv,getD_setV _ _ _ _ hvl,if_pos rfl]) hWr.2.2.1 hWr.1
   generalize hb:({ a with f:=updR a.f j 6,w:=updR a.w (j+1) false,x:=updR a.x (j+1) y }:RA)=b at *
   have bf:b.f=updR a.f j 6:=by rw [<-hb]
   have bw:b.w=updR a.w (j+1) false:=by rw [<-hb]
   have bq:b.q=a.q:=by rw [<-hb]
   have bx:b.x=updR a.x (j+1) y:=by rw [<-hb]
   have hq0:a.q (j+1)=[]:=h.q0 (j+1) hj1 hr
   have ho:∀ i,i≠j->i≠j+1->b.hold i=a.hold i:=fun i e e2=>hold_of (by rw [bf,updR_ne _ e]) (by rw [bw,updR_ne _ e2]) (by rw [bx,updR_ne _ e2])
   have ho1:a.hold (j+1)=[]:=hold_no (by omega) (fun _=>hrw)
   have ho2:b.hold (j+1)=[y]:=by
    rw [hold_yes (.inl ⟨by rw [bf,updR_ne _ (by omega)];exact hrf,by rw [bw,updR_self]⟩),bx,updR_self]
   obtain⟨s1,s2,s3⟩:=all_over (a:=a) (b:=b) hj (fun i e=>by rw [bf,updR_ne _ e]) hf (by rw [bf,updR_self]) hha (hold_no (by rw [bf,updR_self];decide) (fun h=>by rw [bf,updR_self] at h;cases h)) (by rw [bq]) (fun i hi=>by rw [ho i (by omega) (by omega),bq]) (by rw [ho1,ho2,bq,hq0,hy];rfl) (fun i hi=>by rw [ho i (by omega) (by omega),bq])
   refine⟨b,r,?_,by omega,by omega⟩
   rw [s2 (n - 1) (by omega),hWr.2.1]
end
end Go.Proofs.YtnhidaamfnjdjaaGreatDoor
namespace Go.Proofs.YtnhidaamfnjdjaaGreatDoor
open Go.RowKit Go.Maps
section
variable {T : List PNode} {n j : Nat} {t t' : TS} {a : RA} {steps d : Int}
theorem RInv.made (h:RInv n t a) (hc:t.cur=none):(∃ p r,t.oth=p :: r∧t.makeCurrent T={ t with cur:=some p,oth:=r })∨(t.oth=[]∧t.makeCurrent T=t):=by
 obtain⟨c1,c2,c3,c4,c5⟩:=h.calm
 clear h c4 c5
 obtain⟨v,ch,cu,u,o,as,sl,ti,ou,en,fa,ps⟩:=t
 dsimp only at c1 c2 c3 hc
 subst c1;subst c2;subst c3;subst hc
 cases o with
 | nil=>exact .inr ⟨rfl,rfl⟩
 | cons p r=>exact .inl ⟨p,r,rfl,rfl⟩
theorem row_turn (rt:RowT T n) (h:RInv n t a):match TS.turn T steps d t with
  | .inl r=>RGoes n t a d r.1 r.2
  | .inr r=>r.1=d∧r.2=t∧(d<steps->t.cur=none∧t.oth=[]):=by
 cases hc:t.cur with
 | none =>
  unfold TS.turn
  rw [hc]
  dsimp only
  by_cases hd:d<steps
  ·rw [if_pos hd]
   rcases h.made (T:=T) hc with ⟨p,r,ho,e⟩|⟨ho,e⟩
   ·rw [e]
    dsimp only
    exact⟨a,h.taken hc ho,rfl,by omega,by omega⟩
   ·rw [e,hc]
    exact⟨rfl,rfl,fun _=>⟨rfl,ho⟩⟩
  ·rw [if_neg hd]
   exact⟨rfl,rfl,fun x=>absurd x hd⟩
 | some p =>
  obtain⟨j,hj,rfl,hw,hno⟩:=h.cur p hc
  have h6:=h.f6 j hj
  have stop:(∃ i k l,(t.pr (j+1)).pile=(i,k) :: l∧TS.free1 T t (j+1)=none)->steps≤d->TS.turn T steps d t=.inr (d,t):=fun⟨i,k,l,h1,h2⟩ h3=>by rw [turn_step hc h1 h2,if_pos h3]
  have pr:=h.pr hc
  have fin:∀ d',(∃ t',TS.turn T steps d t=.inl (d',t')∧RGoes n t a d d' t')->match TS.turn T steps d t with
    | .inl r=>RGoes n t a d r.1 r.2
    | .inr r=>r.1=d∧r.2=t∧(d<steps->t.cur=none∧t.oth=[]):=fun d' ⟨t',e,g⟩=>by rw [e];exact g
  rw [hc] at fin
  have fins:(∃ i k l,(t.pr (j+1)).pile=(i,k) :: l∧TS.free1 T t (j+1)=none)->steps≤d->match TS.turn T steps d t with
    | .inl r=>RGoes n t a d r.1 r.2
    | .inr r=>r.1=d∧r.2=t∧(d<steps->some (j+1)=none∧t.oth=[]):=fun q h3=>by
   rw [stop q h3]
   exact⟨rfl,rfl,fun x=>absurd x (by omega)⟩
  by_cases f0:a.f j=0
  ·exact fin _ (turn0 rt h hc f0)
  by_cases f1:a.f j=1
  ·by_cases hd:steps≤d
   ·refine fins ⟨bR n j+1,0,[],by rw [pr,f1];rfl,free_none (i:=bR n j+1) (k:=0) (l:=[]) (by rw [pr,f1];rfl) ?_ ?_ ?_⟩ hd <;> rw [(rt.k1 j hj).1] <;> decide
   ·exact fin _ (turn1 rt h hc f1 hd)
  by_cases f2:a.f j=2∨a.f j=4∨a.f j=6
  ·exact fin _ (turnS rt h hc f2)
  by_cases f3:a.f j=3
  ·by_cases hd:steps≤d
   ·refine fins ⟨bR n j+3,0,[(bR n j+2,1),(bR n j+1,0)],by rw [pr,f3];rfl,free_none (i:=bR n j+3) (k:=0) (l:=[(bR n j+2,1),(bR n j+1,0)]) (by rw [pr,f3];rfl) ?_ ?_ ?_⟩ hd <;> rw [(rt.k3 j hj).1] <;> decide
   ·exact fin _ (turn3 rt h hc f3 hd)
  have f5:a.f j=5:=by omega
  by_cases hd:steps≤d
  ·refine fins ⟨bR n j+4,0,[(bR n j+2,2),(bR n j+1,0)],by rw [pr,f5];rfl,free_none (i:=bR n j+4) (k:=0) (l:=[(bR n j+2,2),(bR n j+1,0)]) (by rw [pr,f5];rfl) ?_ ?_ ?_⟩ hd <;> rw [(rt.k4 j hj).1] <;> decide
  ·exact fin _ (turn5 rt h hc f5 hd)
theorem RInv.still (h:RInv n t a) (h0:0<n) (hc:t.cur=none) (ho:t.oth=[]):a.str (n - 1)=[]∧t.stands=3:=by
 have hw:∀ j,j<n->a.w j=true:=fun j hj=>by
  cases hw:a.w j with
  | true=>rfl
  | false =>
   rcases h.rdy j hj hw with x|x
   ·rw [hc] at x;cases x
   ·rw [ho] at x;cases x
 have key:∀ k,k<n->a.rw (n - 1 - k)=true:=by
  intro k
  induction k with
  | zero =>
   intro _
   have hj:n - 1<n:=by omega
   have:=h.wf (n - 1) hj (hw _ hj)
   unfold RA.rw
   rw [Nat.sub_zero,hw _ hj,show a.f (n - 1)=4 by omega]
   rfl
  | succ k ih =>
   intro hk
   have r:=ih (by omega)
   have hj:n - 1 - (k+1)<n:=by omega
   have e:n - 1 - (k+1)+1=n - 1 - k:=by omega
   have q0:=h.q0 (n - 1 - k) (by omega) r
   have q1:=h.q1 (n - 1 - (k+1)) (by omega)
   rw [e,q0] at q1
   have nx:a.xw (n - 1 - (k+1))≠true:=fun x=>by
    rw [if_pos x] at q1
    obtain⟨y,hy⟩:=q1
    cases hy
   have f:=h.wf _ hj (hw _ hj)
   unfold RA.xw at nx
   unfold RA.rw
   rw [hw _ hj] at nx ⊢
   simp at nx
   simp
   omega
 have all:∀ j,j<n->a.rw j=true:=fun j hj=>by
  have:=key (n - 1 - j) (by omega)
  rwa [show n - 1 - (n - 1 - j)=j by omega] at this
 have em:∀ j,j<n->a.str j=[]:=by
  intro j
  induction j with
  | zero =>
   intro hj
   obtain⟨w1,f1⟩:=RA.rw_is (all 0 hj)
   rw [str_at,hold_no (by omega) (fun _=>w1),h.q0 0 hj (all 0 hj)]
   rfl
  | succ j ih =>
   intro hj
   obtain⟨w1,f1⟩:=RA.rw_is (all _ hj)
   rw [str_at,hold_no (by omega) (fun _=>w1),h.q0 _ hj (all _ hj)]
   dsimp only
   rw [ih (by omega)]
   rfl
 refine⟨em _ (by omega),?_⟩
 obtain⟨c1,c2,c3,c4,c5⟩:=h.calm
 unfold TS.stands
 rw [c3,c4,c1,c2,hc,ho,if_neg (by decide),if_neg (by decide),if_neg (by simp)]
 have hr:(t.ch 1).rd=some 1:=by
  have e:t.ch 1=t.chn (cR 0):=rfl
  rw [e,h.ch 0 h0]
  unfold RA.ch
  rw [all 0 h0]
  rfl
 rw [hr,if_pos (by simp)]
theorem RInv.ahead (h:RInv n t a) (hq:¬ (t.cur=none∧t.oth=[])):0<a.all n:=by
 have key:∃ j,j<n∧a.w j=false:=by
  cases hc:t.cur with
  | some p =>
   obtain⟨j,h1,_,h3,_⟩:=h.cur p hc
   exact⟨j,h1,h3⟩
  | none =>
   cases ho:t.oth with
   | nil=>exact absurd ⟨hc,ho⟩ hq
   | cons p r =>
    obtain⟨j,h1,_,h3⟩:=h.oth p (by rw [ho];simp)
    exact⟨j,h1,h3⟩
 obtain⟨j,hj,hw⟩:=key
 have hr:0<a.rem j:=by
  rw [rem_is]
  by_cases e:a.f j=4∨a.f j=5
  ·have:a.hold j=[a.x j]:=hold_yes (by
    rcases e with e|e
    ·exact .inl ⟨e,hw⟩
    ·exact .inr e)
   rw [str_at,this]
   simp
   omega
  ·unfold offR
   rw [if_neg e]
   split <;> omega
 have up:∀ m,j<m->0<a.all m:=by
  intro m
  induction m with
  | zero=>intro h;omega
  | succ m ih =>
   intro h
   show 0<a.all m+a.rem m
   by_cases e:j=m
   ·subst e;omega
   ·have:=ih (by omega)
    omega
 exact up n hj
theorem RInv.feed (h:RInv n t a) (rt:RowT T n) (h0:0<n) (y:Int):∃ b,RInv n (TS.feed T t y) b∧(∀ i,b.str i=a.str i++[finR y i])∧(∀ m,b.all m=a.all m+3 * m)∧(TS.feed T t y).out=t.out:=by
 have hcl:cR 0<t.chans.length:=Nat.lt_of_lt_of_le (cR_lt h0) h.cl
 have hvl:vR n 0<t.vars.length:=Nat.lt_of_lt_of_le (vR_lt h0) h.vl
 have e1:t.ch 1=t.chn (cR 0):=rfl
 have ec:(1:Int)=((cR 0:Nat):Int):=rfl
 unfold TS.feed TS.send
 rw [e1]
 cases hr:a.rw 0 with
 | false =>
  have hrd:(t.chn (cR 0)).rd=none:=by rw [h.ch 0 h0];unfold RA.ch;rw [hr];rfl
  rw [hrd,ec]
  dsimp only
  have r:=h.fedQ (y:=y) (t':=t.setCh ((cR 0:Nat):Int) { t.chn (cR 0) with nums:=(t.chn (cR 0)).nums++[y] }) hr ⟨rfl,rfl,len_setCh _ _ _⟩ ⟨rfl,rfl,rfl,rfl,rfl⟩ (fun i=>rfl) (fun i e=>by rw [chn_set _ _ _ _ hcl,if_neg (cR_ne e)]) (by rw [chn_set _ _ _ _ hcl,if_pos rfl]) rfl rfl rfl
  obtain⟨s1,s2⟩:=all_fed (a:=a) (b:={ a with q:=updR a.q 0 (a.q 0++[y]) }) (y:=y) (fun i=>rfl) (by
   show a.hold 0++updR a.q 0 (a.q 0++[y]) 0=_
   rw [updR_self,List.append_assoc]) (fun i hi=>by
   show a.hold i++updR a.q 0 (a.q 0++[y]) i=_
   rw [updR_ne _ (by omega)])
  exact⟨_,r,s1,s2,rfl⟩
 | true =>
  obtain⟨hrw,hrf⟩:=RA.rw_is hr
  obtain⟨m1,m2,m3,m4⟩:=rt.k3 0 h0
  have hrd:(t.chn (cR 0)).rd=some 1:=by rw [h.ch 0 h0];unfold RA.ch;rw [hr];rfl
  have hpi:1<t.procs.length:=by rw [h.len];omega
  have hti:t.pr 1=a.tp n 0:=h.tp 0 h0
  have htold:(t.pr 1).told=2:=by rw [hti];unfold RA.tp;rw [hr];rfl
  have hopn:(t.pr 1).opn=[bR n 0+3]:=by rw [hti];unfold RA.tp;rw [hr];rfl
  have hurg:(t.pr 1).urg=false:=by rw [hti];rfl
  rw [hrd,ec]
  dsimp only
  generalize hX:({ t.chn (cR 0) with rd:=none }:PCh)=X
  generalize hU:t.setCh ((cR 0:Nat):Int) X=U
  have hUp:∀ k,U.pr k=t.pr k:=fun k=>by rw [<-hU];rfl
  have hUl:U.procs.length=t.procs.length:=by rw [<-hU];rfl
  generalize hV:({ U with vars:=U.vars.set (vR n 0) y }:TS).setPr 1 { t.pr 1 with opn:=[] }=V
  have htl:t.tell T 1 ((cR 0:Nat):Int) y=V.goOn 1:=by
   unfold TS.tell
   rw [htold,if_pos rfl]
   unfold TS.hasRead
   dsimp only
   rw [hopn,List.foldl_cons,List.foldl_nil]
   have e1:TS.unread T t (bR n 0+3)=U:=by
    unfold TS.unread
    rw [m3,chn_of,hX,hU]
   rw [e1]
   have e2:List.find? (fun k=>(T.getD k default).cd == ((cR 0:Nat):Int)) [bR n 0+3]=some (bR n 0+3):=by
    rw [List.find?_cons,m3]
    simp
   rw [e2]
   dsimp only
   rw [TS.follow_is U (by rw [hUl];exact hpi),m2,Int.toNat_natCast,hUp]
   unfold afterR
   rw [if_neg (by omega),hV]
  rw [htl]
  have hVi:V.pr 1={ t.pr 1 with opn:=[] }:=by rw [<-hV];exact TS.pr_self (by show _<U.procs.length;rw [hUl];exact hpi) _
  have hVl:V.procs.length=t.procs.length:=by rw [<-hV,TS.len_set];exact hUl
  have hgo:=TS.goOn_is V (p:=1) (by rw [hVl];exact hpi)
  have hVu:({ t.pr 1 with opn:=[] }:TP).urg=false:=hurg
  rw [hVi,hVu,if_neg (by decide),if_neg (by decide)] at hgo
  generalize hW:V.goOn 1=W at *
  have hWp:∀ k,W.pr k=(V.setPr 1 { t.pr 1 with told:=0,opn:=[] }).pr k:=fun k=>by rw [hgo];rfl
  have hWv:W.vars=t.vars.set (vR n 0) y:=by rw [hgo,<-hV,<-hU];rfl
  have hWc:∀ k,W.chn k=if k=cR 0 then X else t.chn k:=fun k=>by
   have e:W.chn k=U.chn k:=by rw [hgo,<-hV];rfl
   rw [e,<-hU,chn_set t _ _ _ hcl]
  have hWr:W.cur=t.cur∧W.out=t.out∧W.oth=t.oth++[1]∧Calm t W:=by rw [hgo,<-hV,<-hU];exact⟨rfl,rfl,rfl,⟨rfl,rfl,rfl,rfl,rfl⟩⟩
  have hWl:W.procs.length=t.procs.length:=by rw [hgo];simp [hVl]
  have hWh:W.chans.length=t.chans.length:=by rw [hgo,<-hV,<-hU];exact len_setCh t _ _
  have hVp:∀ k,k≠1->V.pr k=t.pr k:=fun k e=>by rw [<-hV,TS.pr_ne _ e];exact hUp k
  have r:=h.fedW (y:=y) (t':=W) h0 hr ⟨hWl,by rw [hWv];simp,hWh⟩ hWr.2.2.2 (fun i e=>by rw [hWp,TS.pr_ne _ (by omega),hVp _ (by omega)]) (by rw [hWp];exact TS.pr_self (by rw [hVl];exact hpi) _)
   (fun i e=>by rw [hWc,if_neg (cR_ne e)]) (by rw [hWc,if_pos rfl,<-hX]) (fun i hi e=>by rw [hWv,getD_setV _ _ _ _ hvl,if_neg (vR_ne e)]) (by rw [hWv,getD_setV _ _ _ _ hvl,if_pos rfl]) hWr.2.2.1 hWr.1
  obtain⟨s1,s2⟩:=all_fed (a:=a) (b:={ a with w:=updR a.w 0 false,x:=updR a.x 0 y }) (y:=y) (fun i=>rfl) (by
   rw [hold_yes (b:={ a with w:=updR a.w 0 false,x:=updR a.x 0 y }) (.inl ⟨hrf,updR_self a.w 0 false⟩),hold_no (b:=a) (by omega) (fun _=>hrw)]
   show [updR a.x 0 y 0]++a.q 0=_
   rw [updR_self,h.q0 0 h0 hr]
   rfl) (fun i hi=>by
   rw [hold_of (a:=a) (b:={ a with w:=updR a.w 0 false,x:=updR a.x 0 y }) rfl (updR_ne _ (by omega) _) (updR_ne _ (by omega) _)])
  exact⟨_,r,s1,s2,hWr.2.1⟩
end
end Go.Proofs.YtnhidaamfnjdjaaGreatDoor
