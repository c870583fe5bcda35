import Derived.Test.YtnhidaamfnjdjaaGreatDoorZTmW
import Derived.Test.YtnhidaamfnjdjaaGreatDoorZTxA
namespace Go.Proofs.YtnhidaamfnjdjaaGreatDoor
open Go.RowKit Go.Maps
theorem varsIn_of {n:Nat}:∀ e:PE,e.InN (n:Int)->varsIn n e
 | .nil,_=>trivial
 | .num _,_=>trivial
 | .var _ d,h=>by
  have h:0≤d∧d<(n:Int):=h
  exact⟨h.1,by omega⟩
 | .pair _ a b,h=>⟨varsIn_of a h.1,varsIn_of b h.2⟩
theorem KRow.few {E:Nat->Nat}:∀ {ks:List Nat} {a e:Nat},KRow E a ks e->ks.length+a≤e
 | [],_,_,h=>by
  have h:_=_:=h
  simp;omega
 | k :: ks,a,e,⟨h1,h2,h3⟩=>by
  have:=h3.few
  rw [List.length_cons]
  omega
theorem TextOk.tmOk {T:List PNode} {r n:Nat} {E:Nat->Nat} (h:TextOk T r n E):TmOk T (makeF T r).code n where
 wf:=h.wf
 inr:=⟨fun i=>(h.inr i).nd,fun i=>(h.inr i).cd,fun i=>varsIn_of _ (h.inr i).expr⟩
 kl:=by have:=h.code;omega
 kids:=fun i=>by
  rcases Nat.lt_or_ge i T.length with hi|hi
  ·have h1:=(h.row i hi).few
   have h2:=h.top i hi
   have h3:=h.few
   omega
  ·rw [getD_ge _ _ _ hi]
   exact Nat.zero_le _
 n2:=h.n2
section
variable {T : List PNode} {K : List (Int × Int)} {B : List (Int × Int × Int)} {n N F : Nat} {s : MS} {t : TS}
theorem start_both {r:Nat} {E:Nat->Nat} (h:TextOk T r n E):Both T (makeF T r).code (makeF T r).br n 0 0 (newF (makeF T r)) (newT n r):=by
 obtain⟨b,hb1,hseg,hb2⟩:=makeF_seg h.wf r h.root h.rk
 have hroom:(makeF T r).room.toNat=n:=by rw [h.room];simp
 have hpr:(newT n r).pr 0=⟨[(r,0)],none,false,0,[],0,false⟩:=rfl
 have hch:∀ c,((newT n r).chn c)=default:=by
  intro c
  show (List.replicate (n:Int).toNat (default:PCh)).getD c default=default
  rcases Nat.lt_or_ge c n with x|x
  ·rw [getD_lt _ _ _ (by simpa using x)];simp
  ·rw [getD_ge _ _ _ (by simpa using x)]
 refine⟨⟨fun _=>.run,?_⟩,?_,?_,fun _=>rfl⟩
 ·refine⟨?_,?_,?_,?_,?_,?_,?_,?_,?_,?_,?_⟩
  ·show (List.replicate (n:Int).toNat (0:Int)).length=n;simp
  ·show (List.replicate (n:Int).toNat (default:PCh)).length=n;simp
  ·intro q hq
   have hq:q<1:=hq
   obtain rfl:q=0:=by omega
   rw [hpr]
   exact⟨rfl,fun _=>rfl,fun kd hkd=>by
    have hkd:kd∈[(r,0)]:=hkd
    rw [List.mem_singleton] at hkd
    subst hkd
    exact⟨h.root,h.rk⟩,fun x=>(by cases x),fun x=>(by cases x)⟩
  ·show [0].Nodup;simp
  ·intro q hq
   have hq:q∈[0]:=hq
   rw [List.mem_singleton] at hq
   subst hq
   exact⟨by show 0<1;decide,rfl⟩
  ·intro x hx;cases hx
  ·show ([]:List Nat).Nodup;simp
  ·intro c q hq;rw [hch] at hq;cases hq
  ·intro c q hq;rw [hch] at hq;cases hq
  ·intro i hi q hq
   have hi:i<1:=hi
   obtain rfl:i=0:=by omega
   rw [hpr] at hq
   cases hq
  ·intro q hq
   have hq:q<1:=hq
   obtain rfl:q=0:=by omega
   rw [hpr]
   rfl
 ·refine⟨?_,?_,rfl,rfl,rfl,rfl,rfl,rfl,rfl,rfl,rfl,rfl,?_,fun _=>rfl,Nat.zero_le _⟩
  ·show List.replicate (makeF T r).room.toNat (0:Int)=List.replicate (n:Int).toNat 0
   rw [hroom];simp
  ·show List.replicate (makeF T r).room.toNat (default:PCh)=List.replicate (n:Int).toNat default
   rw [hroom];simp
  ·intro i hi _
   have hi:i<1:=hi
   obtain rfl:i=0:=by omega
   rw [hpr]
   exact⟨rfl,rfl,rfl,rfl,fun _ _=>⟨⟨0,rfl,.node hseg (.done hb2)⟩,rfl⟩,fun x=>by cases x⟩
 ·refine⟨by show 1≤_;omega,Nat.zero_le _,⟨Int.le_refl _,by show (0:Int)≤_;simp⟩,⟨Int.le_refl _,by show (0:Int)≤_;simp⟩,fun x hx=>(by cases hx),fun c=>(by rw [hch];exact Nat.zero_le _)⟩
theorem Both.out (h:Both T K B n N F s t) (o:List Int) (ho:o.length≤1000 * N):Both T K B n N F { s with out:=o } { t with out:=o }:=by
 obtain⟨⟨st,i⟩,sim,b,f⟩:=h
 exact⟨⟨st,i.setOut o⟩,{ sim with out:=rfl,pr:=fun i hi hn=>(sim.pr i hi hn).weak (fun x=>x) },⟨b.len,ho,b.slept,b.time,b.slp,b.nums⟩,f⟩
theorem send_flt (t:TS) (c v:Int):(t.send T c v).2.faulty=t.faulty:=(Frm.send t c v).flt
theorem unreads_cur:∀ (o:List Nat) (t:TS),(o.foldl (TS.unread T) t).cur=t.cur
 | [],_=>rfl
 | k :: o,t=>by rw [List.foldl_cons,unreads_cur o];rfl
theorem goOn_cur' (t:TS) (q:Nat):(t.goOn q).cur=t.cur:=by
 unfold TS.goOn;dsimp only;split <;> rfl
theorem follow_cur (t:TS) (p k:Nat) (v:Int):(t.follow T p k v).cur=t.cur:=by
 unfold TS.follow;dsimp only;split <;> rfl
theorem send_cur (t:TS) (c v:Int):(t.send T c v).2.cur=t.cur:=by
 unfold TS.send
 split
 ·rfl
 ·unfold TS.tell TS.hasRead
  dsimp only
  split
  ·rw [goOn_cur']
   split
   ·rw [follow_cur,unreads_cur]
   ·rw [unreads_cur]
  ·exact goOn_cur' t _
theorem Both.feed (ok:TmOk T K n) (h:Both T K B n N F s t) (v:Int):Both T K B n N (F+1) (s.send 1 v).2 (t.feed T v):=by
 obtain⟨⟨st,i⟩,sim,b,f⟩:=h
 have rd:=i.rdOk (fun k=>(ok.inr.cd k).1) 1 (by decide)
 obtain⟨st',i',_,_⟩:=i.send ok.wf ok.cd 1 v
 have s2:=(sim.send 1 v (fun q hq=>by
  obtain⟨h1,h2,_,h4⟩:=rd q hq
  exact⟨fun x=>x,h1,h2,h4⟩)).2
 refine⟨⟨st',i'⟩,s2,?_,?_⟩
 ·have fr:=Frm.send (T:=T) t 1 v
  have hs:(t.send T 1 v).2.procs.length≤t.procs.length∧(t.send T 1 v).2.out.length≤t.out.length∧(t.send T 1 v).2.slept=t.slept∧(∀ x∈(t.send T 1 v).2.asleep,x∈t.asleep):=by
   unfold TS.send
   split
   ·exact⟨Nat.le_refl _,Nat.le_refl _,rfl,fun _ h=>h⟩
   ·rename_i q _
    have fr:=Frm.tell (T:=T) t q 1 v
    have hsl:(t.tell T q 1 v).slept=t.slept:=by have:=fr.slept;omega
    refine⟨fr.len,fr.out,hsl,fun x hx=>?_⟩
    rcases fr.slp x hx with y|y
    ·exact y
    ·exact absurd y.1 (by omega)
  refine⟨by have:=b.len;have:=hs.1;show (t.send T 1 v).2.procs.length≤_;omega,by have:=b.out;have:=hs.2.1;show (t.send T 1 v).2.out.length≤_;omega,by show 0≤(t.send T 1 v).2.slept∧(t.send T 1 v).2.slept≤_;rw [hs.2.2.1];exact b.slept,by show 0≤(t.send T 1 v).2.time∧(t.send T 1 v).2.time≤_;rw [fr.time];exact b.time,fun x hx=>b.slp x (hs.2.2.2 x hx),fun c=>by have:=b.nums c;have:=fr.nums c;show ((t.send T 1 v).2.chn c).nums.length≤_;omega⟩
 ·intro hc
  have hc:(t.send T 1 v).2.cur≠none:=hc
  rw [send_cur] at hc
  show (t.send T 1 v).2.faulty=false
  rw [send_flt]
  exact f hc
end
end Go.Proofs.YtnhidaamfnjdjaaGreatDoor
namespace Go.Proofs.YtnhidaamfnjdjaaGreatDoor
open Go.RowKit Go.Maps
structure PM (t t':TS):Prop where
 len:t.procs.length≤t'.procs.length
 old:∀ i,i<t.procs.length->(∃ a,(t'.pr i).pile=a++(t.pr i).pile)∧(t'.pr i).above=(t.pr i).above∧(t'.pr i).fin=(t.pr i).fin
 new:∀ i,t.procs.length≤i->i<t'.procs.length->(t'.pr i).above≠none∧(t'.pr i).fin=false
 ended:t'.ended=t.ended
section
variable {T : List PNode} {t t' t'' : TS} {p q : Nat}
theorem PM.refl (t:TS):PM t t:=⟨Nat.le_refl _,fun _ _=>⟨⟨[],rfl⟩,rfl,rfl⟩,fun i h1 h2=>by omega,rfl⟩
theorem PM.trans (h:PM t t') (k:PM t' t''):PM t t'' where
 len:=Nat.le_trans h.len k.len
 old:=fun i hi=>by
  obtain⟨⟨a,h1⟩,h2,h3⟩:=h.old i hi
  obtain⟨⟨b,k1⟩,k2,k3⟩:=k.old i (Nat.lt_of_lt_of_le hi h.len)
  exact⟨⟨b++a,by rw [k1,h1,List.append_assoc]⟩,k2.trans h2,k3.trans h3⟩
 new:=fun i h1 h2=>by
  rcases Nat.lt_or_ge i t'.procs.length with x|x
  ·obtain⟨a,b⟩:=h.new i h1 x
   obtain⟨_,k2,k3⟩:=k.old i x
   exact⟨by rw [k2];exact a,by rw [k3];exact b⟩
  ·exact k.new i x h2
 ended:=k.ended.trans h.ended
theorem PM.same (h:t'.procs=t.procs) (he:t'.ended=t.ended):PM t t':=by
 have e:∀ i,t'.pr i=t.pr i:=fun i=>TS.pr_procs h i
 exact⟨by rw [h];exact Nat.le_refl _,fun i _=>by rw [e i];exact⟨⟨[],rfl⟩,rfl,rfl⟩,fun i h1 h2=>by rw [h] at h2;omega,he⟩
theorem PM.setPr (t:TS) (p:Nat) (y:TP) (hp:∃ a,y.pile=a++(t.pr p).pile) (ha:y.above=(t.pr p).above) (hf:y.fin=(t.pr p).fin):PM t (t.setPr p y) where
 len:=by rw [TS.len_set];exact Nat.le_refl _
 old:=fun i hi=>by
  by_cases e:i=p
  ·subst e;rw [TS.pr_self hi];exact⟨hp,ha,hf⟩
  ·rw [TS.pr_ne t e];exact⟨⟨[],rfl⟩,rfl,rfl⟩
 new:=fun i h1 h2=>by rw [TS.len_set] at h2;omega
 ended:=rfl
theorem PM.goOn (t:TS) (q:Nat):PM t (t.goOn q):=by
 have h:=PM.setPr t q { t.pr q with told:=0 } ⟨[],rfl⟩ rfl rfl
 unfold TS.goOn
 dsimp only
 split
 ·exact h.trans (PM.same rfl rfl)
 ·exact h.trans (PM.same rfl rfl)
theorem PM.wait (t:TS) (p how:Nat):PM t (t.wait p how):=(PM.setPr t p { t.pr p with told:=how } ⟨[],rfl⟩ rfl rfl).trans (PM.same rfl rfl)
theorem PM.push (t:TS) (p:Nat) (x:Nat×Nat):PM t (t.push p x):=PM.setPr t p _ ⟨[x],rfl⟩ rfl rfl
theorem PM.setCh (t:TS) (c:Int) (x:PCh):PM t (t.setCh c x):=PM.same rfl rfl
theorem PM.leave (t:TS):PM t t.leave:=PM.same rfl rfl
theorem PM.fault (t:TS):PM t t.fault:=PM.same rfl rfl
theorem PM.unreads:∀ (o:List Nat) (t:TS),PM t (o.foldl (TS.unread T) t)
 | [],t=>PM.refl t
 | _ :: o,t=>(PM.setCh t _ _).trans (PM.unreads o _)
theorem PM.follow (t:TS) (p k:Nat) (v:Int):PM t (t.follow T p k v):=by
 unfold TS.follow
 dsimp only
 have h0:PM t { t with vars:=t.vars.set (T.getD k default).nd.toNat v }:=PM.same rfl rfl
 have h:=h0.trans (PM.setPr _ p { t.pr p with opn:=[] } ⟨[],rfl⟩ rfl rfl)
 split
 ·exact h.trans (PM.push _ _ _)
 ·exact h
theorem PM.hasRead (t:TS) (p:Nat) (c v:Int):PM t (t.hasRead T p c v):=by
 unfold TS.hasRead
 dsimp only
 have h:=PM.unreads (T:=T) (t.pr p).opn t
 split
 ·exact (h.trans (PM.follow _ _ _ _)).trans (PM.goOn _ _)
 ·exact h.trans (PM.goOn _ _)
theorem PM.tell (t:TS) (p:Nat) (c v:Int):PM t (t.tell T p c v):=by
 unfold TS.tell
 split
 ·exact PM.hasRead t p c v
 ·exact PM.goOn t p
theorem PM.send (t:TS) (c v:Int):PM t (t.send T c v).2:=by
 unfold TS.send
 split
 ·exact PM.setCh t c _
 ·exact PM.tell t _ c v
theorem PM.receive (t:TS) (c:Int):PM t (t.receive T c).2:=by
 unfold TS.receive
 dsimp only
 have h:=PM.setCh t c { t.ch c with nums:=(t.ch c).nums.tail }
 split
 ·exact h
 ·exact (h.trans (PM.setCh _ c _)).trans (PM.tell _ _ _ _)
theorem PM.reads (t:TS) (p:Nat) (l:List Nat):PM t (t.reads T p l):=by
 unfold TS.reads
 split
 ·exact (PM.receive t _).trans (PM.follow _ _ _ _)
 ·dsimp only
  have h0:PM t (rdsF T p l t):=by
   obtain⟨e1,_,_⟩:=rdsF_is (T:=T) (p:=p) l t
   rw [e1]
   exact PM.same rfl rfl
  have h0:PM t (l.foldl (fun (t:TS) (k:Nat)=>t.setCh (T.getD k default).cd { t.ch (T.getD k default).cd with rd:=some p }) t):=h0
  refine PM.trans ?_ (PM.wait _ _ _)
  refine h0.trans ?_
  exact PM.setPr _ p { TS.pr _ p with opn:=l } ⟨[],rfl⟩ rfl rfl
theorem PM.beginNew (t:TS) {p:Nat} (hp:p<t.procs.length) (k:Nat) (u:Bool):PM t (t.beginNew p k u) where
 len:=by rw [TS.beginNew_is];simp
 old:=fun i hi=>by
  by_cases e:i=p
  ·subst e
   rw [TS.beginNew_pr t hp]
   exact⟨⟨[],rfl⟩,rfl,rfl⟩
  ·rw [TS.beginNew_get t k u (by omega) e,if_neg (by omega)]
   exact⟨⟨[],rfl⟩,rfl,rfl⟩
 new:=fun i h1 h2=>by
  have hl:(t.beginNew p k u).procs.length=t.procs.length+1:=by rw [TS.beginNew_is];simp
  have e:i=t.procs.length:=by omega
  rw [TS.beginNew_get t k u (by omega) (by omega),if_pos e]
  exact⟨by simp,rfl⟩
 ended:=by rw [TS.beginNew_is]
theorem PM.begN (pri:Bool) (ks:List Nat) (t:TS) (hp:p<t.procs.length):∀ m,PM t (begN pri p ks t m)
 | 0=>PM.refl t
 | m+1=>by
  rw [begN_succ]
  exact (PM.begN pri ks t hp m).trans (PM.beginNew _ (begN_len pri ks m hp) _ _)
theorem PM.stepN (t:TS) (p i:Nat) (hp:p<t.procs.length):PM (t.pop p) (t.stepN T p i):=by
 have hpp:p<(t.pop p).procs.length:=by show p<(t.setPr p _).procs.length;rw [TS.len_set];exact hp
 unfold TS.stepN
 dsimp only
 generalize t.pop p=U at *
 split
 ·exact PM.refl U
 split
 ·exact PM.leave U
 split
 ·split
  ·exact PM.fault U
  ·exact PM.same rfl rfl
 split
 ·split
  ·exact PM.fault U
  ·rename_i v _
   split
   ·exact PM.same rfl rfl
   ·have hs:=PM.send (T:=T) U (T.getD i default).cd v
    split
    ·rename_i t1 he
     rw [he] at hs
     exact hs
    ·rename_i t1 he
     rw [he] at hs
     exact (hs.trans (PM.setCh t1 _ _)).trans (PM.wait _ _ _)
 split
 ·split
  ·exact PM.fault U
  ·exact PM.reads U p _
 split
 ·split
  ·exact PM.fault U
  ·split
   ·exact PM.fault U
   ·split
    ·refine PM.trans ?_ (PM.wait _ _ _)
     exact PM.same rfl rfl
    ·exact PM.refl U
 split
 ·have hb:=PM.begN (decide ((T.getD i default).kind=9)) (T.getD i default).kids U hpp (T.getD i default).kids.length
  rw [beginsT_is]
  split
  ·exact hb.trans (PM.wait _ _ _)
  ·exact hb
 split
 ·split
  ·exact PM.fault U
  ·split
   ·exact PM.refl U
   ·exact (PM.push U _ _).trans (PM.push _ _ _)
 split
 ·split
  ·exact PM.fault U
  ·exact PM.leave U
  ·exact PM.push U _ _
 ·split
  ·exact PM.fault U
  ·exact PM.reads U p _
theorem PM.free1 {t1:TS} (hf:t.free1 T p=some t1):PM (t.pop p) t1:=by
 unfold TS.free1 at hf
 split at hf
 ·cases hf
 ·dsimp only at hf
  split at hf
  ·injection hf with hf
   rw [<-hf]
   split
   ·exact (PM.push _ _ _).trans (PM.push _ _ _)
   ·exact PM.refl _
  ·split at hf
   ·injection hf with hf
    rw [<-hf]
    refine PM.trans ?_ (PM.push _ _ _)
    exact PM.same rfl rfl
   ·split at hf
    ·injection hf with hf
     rw [<-hf]
     exact PM.push _ _ _
    ·cases hf
theorem PM.wakeAll:∀ (f:Nat) (t:TS),PM t (TS.wakeAll T f t)
 | 0,t=>PM.refl t
 | f+1,t=>by
  unfold TS.wakeAll
  split
  ·exact PM.refl t
  ·split
   ·refine PM.trans ?_ (PM.wakeAll f _)
    refine PM.trans ?_ (PM.tell _ _ _ _)
    exact PM.same rfl rfl
   ·exact PM.refl t
end
end Go.Proofs.YtnhidaamfnjdjaaGreatDoor
namespace Go.Proofs.YtnhidaamfnjdjaaGreatDoor
open Go.RowKit Go.Maps
section
variable {T : List PNode} {n : Nat} {st : Nat → St} {t t' : TS} {p : Nat} {steps : Int}
structure LoopP (r r1 r2 k w:Nat) (t:TS):Prop where
 flt:t.faulty=false
 ended:t.ended=false
 abv:∀ i,i<t.procs.length->(t.pr i).above=none->i=0
 ph:(t.procs.length=1∧t.cur=some 0∧∃ x,(t.pr 0).pile=[(x,0)]∧(x=r∨x=r1∨x=r2))∨(∃ i,0<i∧i<t.procs.length∧(t.pr i).above=some 0∧(t.pr i).fin=false∧∃ l x,(t.pr i).pile=l++[(x,0)]∧(x=k∨x=w))
variable {r r1 r2 k w : Nat}
theorem LoopP.more {U:TS} {i:Nat} (pm:PM U t') (hf:t'.faulty=false) (he:U.ended=false) (ha:∀ i,i<U.procs.length->(U.pr i).above=none->i=0) (h0:0<i) (hi:i<U.procs.length) (hab:(U.pr i).above=some 0) (hfin:(U.pr i).fin=false) (hl:∃ l x,(U.pr i).pile=l++[(x,0)]∧(x=k∨x=w)):LoopP r r1 r2 k w t':=by
 refine⟨hf,pm.ended.trans he,fun j hj hn=>?_,.inr ⟨i,h0,Nat.lt_of_lt_of_le hi pm.len,?_⟩⟩
 ·rcases Nat.lt_or_ge j U.procs.length with x|x
  ·obtain⟨_,e,_⟩:=pm.old j x
   rw [e] at hn
   exact ha j x hn
  ·exact absurd hn (pm.new j x hj).1
 ·obtain⟨⟨a,e1⟩,e2,e3⟩:=pm.old i hi
  obtain⟨l,x,e4,hx⟩:=hl
  exact⟨e2.trans hab,e3.trans hfin,a++l,x,by rw [e1,e4,List.append_assoc],hx⟩
end
end Go.Proofs.YtnhidaamfnjdjaaGreatDoor
namespace Go.Proofs.YtnhidaamfnjdjaaGreatDoor
open Go.RowKit Go.Maps
section
variable {T : List PNode} {n : Nat} {st : Nat → St} {t : TS} {r r1 r2 k w : Nat}
theorem LoopP.out (h:LoopP r r1 r2 k w t) (o:List Int):LoopP r r1 r2 k w { t with out:=o }:=⟨h.flt,h.ended,h.abv,h.ph⟩
theorem LoopP.feed (inv:TInv T n st t) (h:LoopP r r1 r2 k w t) (v:Int):LoopP r r1 r2 k w (t.feed T v):=by
 have pm:=PM.send (T:=T) t 1 v
 have hf:(t.send T 1 v).2.faulty=false:=(send_flt t 1 v).trans h.flt
 rcases h.ph with ⟨hl,hc,x,hp,hx⟩|⟨i,h0,hi,hab,hfin,hl⟩
 ·obtain⟨_,hr,_,_⟩:=inv.curq hc
  have hrd:(t.ch 1).rd=none:=by
   cases hq:(t.ch 1).rd with
   | none=>rfl
   | some q =>
    obtain⟨q1,q2,_⟩:=inv.rd 1 q hq
    obtain rfl:q=0:=by omega
    rw [hr] at q2
    cases q2
  have e:t.feed T v=t.setCh 1 { t.ch 1 with nums:=(t.ch 1).nums++[v] }:=by
   unfold TS.feed TS.send
   rw [hrd]
  rw [e]
  exact⟨h.flt,h.ended,h.abv,.inl ⟨hl,hc,x,hp,hx⟩⟩
 ·exact LoopP.more pm hf h.ended h.abv h0 hi hab hfin hl
theorem LoopP.stands (h:LoopP r r1 r2 k w t):t.stands=1∨t.stands=3∨t.stands=4:=by
 unfold TS.stands
 rw [if_neg (by rw [h.flt];decide),if_neg (by rw [h.ended];decide)]
 split
 ·exact .inl rfl
 ·split
  ·exact .inr (.inl rfl)
  ·exact .inr (.inr rfl)
theorem stands_both {K:List (Int×Int)} {B:List (Int×Int×Int)} {s:MS} (h:SimM T K B s t):s.stands=t.stands:=by
 unfold MS.stands TS.stands
 rw [h.faulty,h.ended,h.cur,h.urg,h.oth,h.asleep,h.ch]
end
end Go.Proofs.YtnhidaamfnjdjaaGreatDoor
