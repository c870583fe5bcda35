import Derived.Test.YtnhidaamfnjdjaaGreatDoorZTmL
namespace Go.Proofs.YtnhidaamfnjdjaaGreatDoor
open Go.RowKit Go.Maps
structure Frm (a:Nat) (t t':TS):Prop where
 len:t'.procs.length≤t.procs.length+a
 out:t'.out.length≤t.out.length+a
 slept:t.slept≤t'.slept∧t'.slept≤t.slept+a
 time:t'.time=t.time
 slp:∀ x∈t'.asleep,x∈t.asleep∨(0<a∧t.time≤x.1∧x.1≤t.time+1000000)
 nums:∀ c,(t'.chn c).nums.length≤(t.chn c).nums.length+a
 flt:t'.faulty=t.faulty
section
variable {T : List PNode} {t t' t'' : TS} {p q a b n : Nat} {st : Nat → St}
theorem Frm.refl (t:TS):Frm 0 t t:=⟨Nat.le_refl _,Nat.le_refl _,⟨Int.le_refl _,by simp⟩,rfl,fun _ h=>.inl h,fun _=>Nat.le_refl _,rfl⟩
theorem Frm.trans (h:Frm a t t') (k:Frm b t' t''):Frm (a+b) t t'' where
 len:=by have:=h.len;have:=k.len;omega
 out:=by have:=h.out;have:=k.out;omega
 slept:=by have:=h.slept;have:=k.slept;omega
 time:=k.time.trans h.time
 slp:=fun x hx=>by
  rcases k.slp x hx with y|y
  ·rcases h.slp x y with z|z
   ·exact .inl z
   ·exact .inr ⟨by omega,z.2⟩
  ·rw [h.time] at y;exact .inr ⟨by omega,y.2⟩
 nums:=fun c=>by have:=h.nums c;have:=k.nums c;omega
 flt:=k.flt.trans h.flt
theorem Frm.mono (h:Frm a t t') (hab:a≤b):Frm b t t' where
 len:=by have:=h.len;omega
 out:=by have:=h.out;omega
 slept:=by have:=h.slept;omega
 time:=h.time
 slp:=fun x hx=>by
  rcases h.slp x hx with z|z
  ·exact .inl z
  ·exact .inr ⟨by omega,z.2⟩
 nums:=fun c=>by have:=h.nums c;omega
 flt:=h.flt
theorem Frm.setPr (t:TS) (p:Nat) (y:TP):Frm 0 t (t.setPr p y):=⟨by rw [TS.len_set];exact Nat.le_refl _,Nat.le_refl _,⟨Int.le_refl _,by show t.slept≤t.slept+((0:Nat):Int);simp⟩,rfl,fun _ h=>.inl h,fun _=>Nat.le_refl _,rfl⟩
theorem Frm.leave (t:TS):Frm 0 t t.leave:=⟨Nat.le_refl _,Nat.le_refl _,⟨Int.le_refl _,by show t.slept≤t.slept+((0:Nat):Int);simp⟩,rfl,fun _ h=>.inl h,fun _=>Nat.le_refl _,rfl⟩
theorem Frm.setVars (t:TS) (v:List Int):Frm 0 t { t with vars:=v }:=⟨Nat.le_refl _,Nat.le_refl _,⟨Int.le_refl _,by show t.slept≤t.slept+((0:Nat):Int);simp⟩,rfl,fun _ h=>.inl h,fun _=>Nat.le_refl _,rfl⟩
theorem Frm.setQ (t:TS) (c:Option Nat) (u o:List Nat):Frm 0 t { t with cur:=c,urg:=u,oth:=o }:=⟨Nat.le_refl _,Nat.le_refl _,⟨Int.le_refl _,by show t.slept≤t.slept+((0:Nat):Int);simp⟩,rfl,fun _ h=>.inl h,fun _=>Nat.le_refl _,rfl⟩
theorem Frm.setCh (t:TS) (c:Int) (x:PCh) (a:Nat) (h:x.nums.length≤(t.ch c).nums.length+a):Frm a t (t.setCh c x) where
 len:=by show t.procs.length≤_;omega
 out:=by show t.out.length≤_;omega
 slept:=by show t.slept≤t.slept∧t.slept≤t.slept+(a:Int);omega
 time:=rfl
 slp:=fun _ h=>.inl h
 nums:=fun d=>by
  rw [chn_setCh]
  split
  ·rename_i e
   rw [e.1]
   exact h
  ·omega
 flt:=rfl
theorem Frm.goOn (t:TS) (q:Nat):Frm 0 t (t.goOn q):=by
 have h:Frm 0 t (t.setPr q { t.pr q with told:=0 }):=Frm.setPr t q _
 unfold TS.goOn
 dsimp only
 split
 ·exact (h.trans (Frm.setQ _ _ _ _)).mono (Nat.le_refl _)
 ·exact (h.trans (Frm.setQ _ _ _ _)).mono (Nat.le_refl _)
theorem Frm.wait (t:TS) (p how:Nat):Frm 0 t (t.wait p how):=(Frm.setPr t p _).trans (Frm.leave _)
theorem Frm.push (t:TS) (p:Nat) (x:Nat×Nat):Frm 0 t (t.push p x):=Frm.setPr t p _
theorem Frm.unreads:∀ (o:List Nat) (t:TS),Frm 0 t (o.foldl (TS.unread T) t)
 | [],t=>Frm.refl t
 | k :: o,t=>(Frm.setCh t _ { t.ch (T.getD k default).cd with rd:=none } 0 (Nat.le_refl _)).trans (Frm.unreads o _)
theorem Frm.follow (t:TS) (p k:Nat) (v:Int):Frm 0 t (t.follow T p k v):=by
 unfold TS.follow
 dsimp only
 have h:=(Frm.setVars t (t.vars.set (T.getD k default).nd.toNat v)).trans (Frm.setPr _ p { t.pr p with opn:=[] })
 split
 ·exact h.trans (Frm.push _ _ _)
 ·exact h
theorem Frm.hasRead (t:TS) (p:Nat) (c v:Int):Frm 0 t (t.hasRead T p c v):=by
 unfold TS.hasRead
 dsimp only
 have h:=Frm.unreads (T:=T) (t.pr p).opn t
 split
 ·exact (h.trans (Frm.follow _ _ _ _)).trans (Frm.goOn _ _)
 ·exact h.trans (Frm.goOn _ _)
theorem Frm.tell (t:TS) (p:Nat) (c v:Int):Frm 0 t (t.tell T p c v):=by
 unfold TS.tell
 split
 ·exact Frm.hasRead t p c v
 ·exact Frm.goOn t p
theorem Frm.send (t:TS) (c v:Int):Frm 1 t (t.send T c v).2:=by
 unfold TS.send
 split
 ·exact Frm.setCh t c _ 1 (by simp)
 ·exact (Frm.tell t _ c v).mono (by omega)
theorem Frm.receive (t:TS) (c:Int):Frm 0 t (t.receive T c).2:=by
 unfold TS.receive
 dsimp only
 have h:=Frm.setCh t c { t.ch c with nums:=(t.ch c).nums.tail } 0 (by simp)
 split
 ·exact h
 ·exact (h.trans (Frm.setCh _ c _ 0 (by exact Nat.le_refl _))).trans (Frm.tell _ _ _ _)
theorem Frm.rds:∀ (l:List Nat) (t:TS),Frm 0 t (rdsF T p l t)
 | [],t=>Frm.refl t
 | k :: l,t=>(Frm.setCh t _ { t.ch (T.getD k default).cd with rd:=some p } 0 (Nat.le_refl _)).trans (Frm.rds l _)
theorem Frm.reads (t:TS) (p:Nat) (l:List Nat):Frm 0 t (t.reads T p l):=by
 unfold TS.reads
 split
 ·exact (Frm.receive t _).trans (Frm.follow _ _ _ _)
 ·dsimp only
  exact ((Frm.rds (T:=T) (p:=p) l t).trans (Frm.setPr _ p _)).trans (Frm.wait _ _ _)
theorem Frm.beginNew (t:TS) (p k:Nat) (u:Bool):Frm 1 t (t.beginNew p k u):=by
 unfold TS.beginNew
 dsimp only
 have h:=Frm.setPr t p { t.pr p with below:=(t.pr p).below+1 }
 refine ((h.trans (b:=1) ?_).trans (Frm.goOn _ _)).mono (by omega)
 generalize t.setPr p { t.pr p with below:=(t.pr p).below+1 }=U
 refine⟨by simp,by show U.out.length≤_;omega,by show U.slept≤U.slept∧U.slept≤U.slept+((1:Nat):Int);omega,rfl,fun _ h=>.inl h,fun _=>by show (U.chn _).nums.length≤_;omega,rfl⟩
theorem Frm.begN (pri:Bool) (p:Nat) (ks:List Nat) (t:TS):∀ m,Frm m t (begN pri p ks t m)
 | 0=>Frm.refl t
 | m+1=>by
  rw [begN_succ]
  exact (Frm.begN pri p ks t m).trans (Frm.beginNew _ _ _ _)
theorem Frm.free1 {t':TS} (hf:t.free1 T p=some t'):Frm 0 t t':=by
 have hpop:∀ t:TS,Frm 0 t (t.pop p):=fun t=>Frm.setPr t p _
 have hdown:∀ (t:TS) (k:Nat),Frm 0 t (t.down T p k):=fun t k=>Frm.push t p _
 unfold TS.free1 at hf
 split at hf
 ·cases hf
 ·dsimp only at hf
  split at hf
  ·injection hf with hf
   rw [<-hf]
   split
   ·exact ((hpop t).trans (Frm.push _ _ _)).trans (Frm.push _ _ _)
   ·exact hpop t
  ·split at hf
   ·injection hf with hf
    rw [<-hf]
    exact ((Frm.setVars t _).trans (hpop _)).trans (hdown _ _)
   ·split at hf
    ·injection hf with hf
     rw [<-hf]
     exact (hpop t).trans (hdown _ _)
    ·cases hf
theorem Frm.endP (t:TS) (p:Nat):Frm 0 t (t.endP T p):=by
 have h:=Frm.setPr t p { t.pr p with fin:=true }
 unfold TS.endP
 dsimp only
 generalize t.setPr p { t.pr p with fin:=true }=U at *
 split
 ·exact⟨h.len,h.out,h.slept,h.time,h.slp,h.nums,h.flt⟩
 ·have h2:=(h.trans (Frm.leave U))
  split
  ·exact (h2.trans (Frm.setPr _ _ _)).trans (Frm.tell _ _ _ _)
  ·exact h2.trans (Frm.setPr _ _ _)
theorem step_frm (hkl:∀ i,(T.getD i default).kids.length≤1000) (t:TS) (p i:Nat) (ht:0≤t.time∧t.time<9000000000000000000):Frm 1000 t (t.stepN T p i)∨(t.stepN T p i=(t.pop p).fault):=by
 have hpop:Frm 0 t (t.pop p):=Frm.setPr t p _
 have hdown:∀ (t:TS) (k:Nat),Frm 0 t (t.down T p k):=fun t k=>Frm.push t p _
 have fin:∀ {a:Nat} {t'},Frm a (t.pop p) t'->a≤1000->Frm 1000 t t':=fun h ha=>(hpop.trans h).mono (by omega)
 have htime:(t.pop p).time=t.time:=rfl
 unfold TS.stepN
 dsimp only
 generalize t.pop p=U at *
 split
 ·exact .inl (fin (Frm.refl U) (by omega))
 split
 ·exact .inl (fin (Frm.leave U) (by omega))
 split
 ·split
  ·exact .inr rfl
  ·exact .inl (fin (Frm.setVars U _) (by omega))
 split
 ·split
  ·exact .inr rfl
  ·rename_i v _
   left
   split
   ·exact fin (a:=1) ⟨by show U.procs.length≤_;omega,by simp,by show U.slept≤U.slept∧U.slept≤U.slept+((1:Nat):Int);omega,rfl,fun _ h=>.inl h,fun _=>by show (U.chn _).nums.length≤_;omega,rfl⟩ (by omega)
   ·have hs:=Frm.send (T:=T) U (T.getD i default).cd v
    split
    ·rename_i t1 he
     rw [he] at hs
     exact fin hs (by omega)
    ·rename_i t1 he
     rw [he] at hs
     exact fin ((hs.trans (Frm.setCh t1 _ _ 0 (by exact Nat.le_refl _))).trans (Frm.wait _ _ _)) (by omega)
 split
 ·split
  ·exact .inr rfl
  ·exact .inl (fin (Frm.reads U p _) (by omega))
 split
 ·split
  ·exact .inr rfl
  ·rename_i v _
   split
   ·exact .inr rfl
   ·rename_i hv1
    left
    split
    ·rename_i hv0
     have hp:=tPush_perm (w64 (U.time+v),U.slept,p) U.asleep
     have hw:w64 (U.time+v)=U.time+v:=IntWalk.wrap64_in _ (by omega)
     have h1:Frm 1 U { U with asleep:=pushF' (w64 (U.time+v),U.slept,p) U.asleep,slept:=U.slept+1 }:=by
      refine⟨by show U.procs.length≤_;omega,by show U.out.length≤_;omega,by show U.slept≤U.slept+1∧U.slept+1≤U.slept+((1:Nat):Int);omega,rfl,fun x hx=>?_,fun _=>by show (U.chn _).nums.length≤_;omega,rfl⟩
      rcases List.mem_cons.1 (hp.mem_iff.1 hx) with rfl|hx
      ·right
       refine⟨by omega,?_⟩
       show U.time≤w64 (U.time+v)∧w64 (U.time+v)≤U.time+1000000
       rw [hw]
       omega
      ·exact .inl hx
     exact fin (h1.trans (Frm.wait _ _ _)) (by omega)
    ·exact fin (Frm.refl U) (by omega)
 split
 ·left
  have hb:=Frm.begN (decide ((T.getD i default).kind=9)) p (T.getD i default).kids U (T.getD i default).kids.length
  rw [beginsT_is]
  have:=hkl i
  split
  ·exact fin (hb.trans (Frm.wait _ _ _)) (by omega)
  ·exact fin hb (by omega)
 split
 ·split
  ·exact .inr rfl
  ·left
   split
   ·exact fin (Frm.refl U) (by omega)
   ·exact fin ((Frm.push U _ _).trans (hdown _ _)) (by omega)
 split
 ·split
  ·exact .inr rfl
  ·exact .inl (fin (Frm.leave U) (by omega))
  ·exact .inl (fin (hdown U _) (by omega))
 ·split
  ·exact .inr rfl
  ·exact .inl (fin (Frm.reads U p _) (by omega))
end
end Go.Proofs.YtnhidaamfnjdjaaGreatDoor
namespace Go.Proofs.YtnhidaamfnjdjaaGreatDoor
open Go.RowKit Go.Maps
theorem nodup_few:∀ (n:Nat) (l:List Nat),l.Nodup->(∀ x∈l,x<n)->l.length≤n
 | 0,l,_,h=>by
  cases l with
  | nil=>simp
  | cons x l=>exact absurd (h x (by simp)) (by omega)
 | n+1,l,hn,h=>by
  by_cases hm:n∈l
  ·have h1:=nodup_few n (l.erase n) (hn.erase n) (fun x hx=>by
    have h2:=h x (List.mem_of_mem_erase hx)
    have h3:x≠n:=fun e=>by
     rw [e] at hx
     exact (List.Nodup.not_mem_erase hn) hx
    omega)
   rw [List.length_erase_of_mem hm] at h1
   omega
  ·have:=nodup_few n l hn (fun x hx=>by
    have h2:=h x hx
    have h3:x≠n:=fun e=>hm (e ▸ hx)
    omega)
   omega
structure NBd (N F:Nat) (t:TS):Prop where
 len:t.procs.length≤1+1000 * N
 out:t.out.length≤1000 * N
 slept:0≤t.slept∧t.slept≤1000 * (N:Int)
 time:0≤t.time∧t.time≤1000000 * (N:Int)
 slp:∀ x∈t.asleep,0≤x.1∧x.1≤1000000 * (N:Int)
 nums:∀ c,(t.chn c).nums.length≤F+1000 * N
section
variable {T : List PNode} {K : List (Int × Int)} {B : List (Int × Int × Int)} {steps : Int} {s : MS} {t t' : TS} {p n N F : Nat} {st : Nat → St}
theorem NBd.frm (h:NBd N F t) (k:Frm 0 t t'):NBd N F t' where
 len:=by have:=h.len;have:=k.len;omega
 out:=by have:=h.out;have:=k.out;omega
 slept:=by have:=h.slept;have:=k.slept;omega
 time:=by rw [k.time];exact h.time
 slp:=fun x hx=>by
  rcases k.slp x hx with y|y
  ·exact h.slp x y
  ·exact absurd y.1 (by omega)
 nums:=fun c=>by have:=h.nums c;have:=k.nums c;omega
set_option maxRecDepth 10000 in
theorem NBd.step (h:NBd N F t) (k:Frm 1000 t t'):NBd (N+1) F t' where
 len:=by have:=h.len;have:=k.len;omega
 out:=by have:=h.out;have:=k.out;omega
 slept:=by have:=h.slept;have:=k.slept;push_cast;omega
 time:=by rw [k.time];have:=h.time;push_cast;omega
 slp:=fun x hx=>by
  have:=h.time
  push_cast
  rcases k.slp x hx with y|y
  ·have:=h.slp x y;omega
  ·omega
 nums:=fun c=>by have:=h.nums c;have:=k.nums c;omega
theorem NBd.more (h:NBd N F t):NBd (N+1) F t where
 len:=by have:=h.len;omega
 out:=by have:=h.out;omega
 slept:=by have:=h.slept;push_cast;omega
 time:=by have:=h.time;push_cast;omega
 slp:=fun x hx=>by have:=h.slp x hx;push_cast;omega
 nums:=fun c=>by have:=h.nums c;omega
end
end Go.Proofs.YtnhidaamfnjdjaaGreatDoor
namespace Go.Proofs.YtnhidaamfnjdjaaGreatDoor
open Go.RowKit Go.Maps
section
variable {T : List PNode} {K : List (Int × Int)} {B : List (Int × Int × Int)} {steps : Int} {s : MS} {t t' : TS} {p n N F : Nat} {st : Nat → St}
theorem TInv.lens (h:TInv T n st t) (sim:SimM T K B s t) (b:NBd N F t) (hN:N≤500000000) (hn:n≤2000):Lens s∧t.urg.length<800000000000∧t.oth.length<800000000000:=by
 have hq:=nodup_few t.procs.length t.que h.nd (fun x hx=>(h.inq x hx).1)
 have hs:=nodup_few t.procs.length (t.asleep.map (fun x=>x.2.2)) h.slpN (fun x hx=>by
  obtain⟨y,hy,rfl⟩:=List.mem_map.1 hx
  exact (h.slp y hy).1)
 rw [List.length_map] at hs
 have h1:=b.len
 have h2:=b.out
 unfold TS.que at hq
 rw [List.length_append,List.length_append] at hq
 have hv:=h.vl
 have hc:=h.cl
 refine⟨⟨?_,?_,?_,?_,?_,?_⟩,by omega,by omega⟩
 ·rw [sim.urg];omega
 ·rw [sim.oth];omega
 ·rw [sim.chans];omega
 ·rw [sim.vars];omega
 ·rw [sim.out];omega
 ·rw [sim.asleep];omega
theorem TInv.inRt (h:TInv T n st t):InRt t where
 urg:=fun i hi=>(h.inq i (by unfold TS.que;simp [hi])).1
 oth:=fun i hi=>(h.inq i (by unfold TS.que;simp [hi])).1
 asleep:=fun x hx=>(h.slp x hx).1
 rd:=fun x hx q hq=>by
  obtain⟨c,hc,rfl⟩:=List.getElem_of_mem hx
  refine (h.rd c q ?_).1
  unfold TS.chn
  rw [getD_lt _ _ _ hc]
  exact hq
 wr:=fun x hx q hq=>by
  obtain⟨c,hc,rfl⟩:=List.getElem_of_mem hx
  refine (h.wr c q ?_).1
  unfold TS.chn
  rw [getD_lt _ _ _ hc]
  exact hq
 cur:=fun q hq=>(h.curq hq).1
 above:=fun i hi q hq=>by have:=h.above i hi q hq;omega
theorem TInv.wrOk (h:TInv T n st t) (b:NBd N F t) (hN:N≤500000000) (hF:F≤17600000000000):WrOk t:=by
 intro y hy
 obtain⟨c,hc,rfl⟩:=List.getElem_of_mem hy
 have e:t.chn c=t.chans[c]:=getD_lt _ _ _ hc
 refine⟨fun q hq=>?_,?_⟩
 ·rw [<-e] at hq
  obtain⟨h1,h2⟩:=h.wr c q hq
  have k:=(h.prs q h1).told
  rw [h2] at k
  exact⟨h1,k⟩
 ·have:=b.nums c
  rw [e] at this
  omega
theorem TInv.rdOk (h:TInv T n st t) (hcd:∀ k,0≤(T.getD k default).cd) (c:Int) (hc:0≤c):RdOk T t c:=by
 intro q hq
 rw [ch_chn] at hq
 obtain⟨h1,h2,k,hk,e⟩:=h.rd _ q hq
 have p1:=h.prs q h1
 have kt:=p1.told
 have ko:=(p1.opn h2).1
 rw [h2] at kt
 refine⟨h1,kt,by omega,k,hk,?_⟩
 have:=hcd k
 omega
theorem TInv.curK (h:TInv T n st t) (sim:SimM T K B s t) (hc:t.cur=some p) (hf:t.faulty=false) (hl:Lens s):CurK T K B s t p:=by
 obtain⟨h1,h2,h3,h4⟩:=h.curq hc
 have k:=(h.prs p h1).told
 rw [h2] at k
 exact⟨sim,hc,h1,k,hf,⟨h3,h4⟩,hl⟩
theorem TInv.setAsleep (h:TInv T n st t) (l:List (Int×Int×Nat)) (h1:∀ x∈l,x.2.2<t.procs.length∧st x.2.2=.sleep) (h2:(l.map (fun x=>x.2.2)).Nodup):TInv T n st { t with asleep:=l }:=⟨h.vl,h.cl,h.prs,h.nd,h.inq,h1,h2,h.wr,h.rd,h.above,h.cnt⟩
theorem wakeAll_all:∀ (f:Nat) {s:MS} {t:TS} {st:Nat->St},TInv T n st t->SimM T K B s t->(∃ st',TInv T n st' (TS.wakeAll T f t))∧SimM T K B (MS.wakeAll f s) (TS.wakeAll T f t)∧Frm 0 t (TS.wakeAll T f t)∧(TS.wakeAll T f t).cur=t.cur
 | 0,s,t,st,h,sim=>⟨⟨st,h⟩,sim,Frm.refl t,rfl⟩
 | f+1,s,t,st,h,sim=>by
  unfold MS.wakeAll TS.wakeAll
  rw [sim.asleep]
  cases ha:t.asleep with
  | nil=>exact⟨⟨st,h⟩,sim,Frm.refl t,rfl⟩
  | cons x r =>
   dsimp only
   by_cases ht:x.1=t.time
   ·rw [if_pos (show x.1=s.time by rw [sim.time];exact ht),if_pos ht]
    have hp:=tPop_perm (x :: r) r.length rfl
    have hm:∀ y∈(popF (x :: r)).1 :: (popF (x :: r)).2,y∈t.asleep:=fun y hy=>by rw [ha];exact hp.mem_iff.1 hy
    have hnd:(((popF (x :: r)).1 :: (popF (x :: r)).2).map (fun x=>x.2.2)).Nodup:=by
     rw [(hp.map _).nodup_iff,<-ha]
     exact h.slpN
    rw [List.map_cons,List.nodup_cons] at hnd
    generalize popF (x :: r)=P at *
    obtain⟨q1,q2⟩:=h.slp P.1 (hm _ (List.mem_cons_self ..))
    have h1:=h.setAsleep P.2 (fun y hy=>h.slp y (hm y (List.mem_cons_of_mem _ hy))) hnd.2
    have sim1:SimM T K B { s with asleep:=P.2 } { t with asleep:=P.2 }:={ sim with asleep:=rfl,pr:=fun i hi hn=>(sim.pr i hi hn).weak (fun x=>x) }
    have kt:=(h.prs P.1.2.2 q1)
    rw [q2] at kt
    have tl:({ t with asleep:=P.2 }:TS).tell T P.1.2.2 0 0=({ t with asleep:=P.2 }:TS).goOn P.1.2.2:=by
     unfold TS.tell
     rw [if_neg]
     have e:(({ t with asleep:=P.2 }:TS).pr P.1.2.2).told=1:=kt.told
     rw [e]
     decide
    have sim2:=sim1.tell1 (q:=P.1.2.2) (fun x=>x) q1 kt.told 0 0
    have i2:TInv T n (updS st P.1.2.2 .run) (({ t with asleep:=P.2 }:TS).tell T P.1.2.2 0 0):=by
     rw [tl]
     refine h1.goOn q1 (by rw [q2];simp) (by rw [q2];simp) (kt.below (by simp)) ?_ (h1.noW (fun c=>by rw [q2];simp)) (h1.noR (by rw [q2];simp))
     intro y hy e
     exact hnd.1 (List.mem_map.2 ⟨y,hy,e⟩)
    obtain⟨a1,a2,a3,a4⟩:=wakeAll_all f i2 sim2
    have f1:Frm 0 t { t with asleep:=P.2 }:=⟨Nat.le_refl _,Nat.le_refl _,⟨Int.le_refl _,by show t.slept≤t.slept+((0:Nat):Int);simp⟩,rfl,fun y hy=>.inl (hm y (List.mem_cons_of_mem _ hy)),fun _=>Nat.le_refl _,rfl⟩
    refine⟨a1,a2,(f1.trans (Frm.tell _ _ _ _)).trans a3,?_⟩
    rw [a4,tl]
    exact TS.goOn_cur { t with asleep:=P.2 } q1
   ·rw [if_neg (show ¬ x.1=s.time by rw [sim.time];exact ht),if_neg ht]
    exact⟨⟨st,h⟩,sim,Frm.refl t,rfl⟩
theorem wakeNext_all (h:TInv T n st t) (sim:SimM T K B s t) (b:NBd N F t):(∃ st',TInv T n st' (t.wakeNext T))∧SimM T K B s.wakeNext (t.wakeNext T)∧NBd N F (t.wakeNext T)∧(t.wakeNext T).cur=t.cur∧(t.wakeNext T).faulty=t.faulty:=by
 have key:∀ (l:List (Int×Int×Nat)),l=t.asleep->(∃ st',TInv T n st' (match l with|[]=>t|x :: r=>TS.wakeAll T (r.length+1) { t with time:=x.1 }))∧SimM T K B (match l with|[]=>s|x :: r=>MS.wakeAll (r.length+1) { s with time:=x.1 }) (match l with|[]=>t|x :: r=>TS.wakeAll T (r.length+1) { t with time:=x.1 })∧NBd N F (match l with|[]=>t|x :: r=>TS.wakeAll T (r.length+1) { t with time:=x.1 })∧(match l with|[]=>t|x :: r=>TS.wakeAll T (r.length+1) { t with time:=x.1 }).cur=t.cur∧(match l with|[]=>t|x :: r=>TS.wakeAll T (r.length+1) { t with time:=x.1 }).faulty=t.faulty:=by
  intro l hl
  cases l with
  | nil=>exact⟨⟨st,h⟩,sim,b,rfl,rfl⟩
  | cons x r =>
   have sim1:SimM T K B { s with time:=x.1 } { t with time:=x.1 }:={ sim with time:=rfl,pr:=fun i hi hn=>(sim.pr i hi hn).weak (fun x=>x) }
   obtain⟨a1,a2,a3,a4⟩:=wakeAll_all (T:=T) (r.length+1) (h.setTime x.1) sim1
   have b1:NBd N F { t with time:=x.1 }:=⟨b.len,b.out,b.slept,b.slp x (by rw [<-hl];simp),b.slp,b.nums⟩
   exact⟨a1,a2,b1.frm a3,a4,a3.flt⟩
 have q:=key t.asleep rfl
 have gen:∀ l:List (Int×Int×Nat),s.asleep=l->s.wakeNext=(match l with|[]=>s|x :: r=>MS.wakeAll (r.length+1) { s with time:=x.1 }):=by
  intro l hl
  subst hl
  rfl
 have e1:=gen t.asleep sim.asleep
 rw [e1]
 exact q
theorem TInv.pick (h:TInv T n st t) (hc:t.cur=none) (c:Option Nat) (u o:List Nat) (hq:c.toList++u++o=t.urg++t.oth):TInv T n st { t with cur:=c,urg:=u,oth:=o }:=by
 have e:t.que=t.urg++t.oth:=by unfold TS.que;rw [hc];simp
 have hn:=h.nd
 have hi:=h.inq
 rw [e] at hn hi
 refine⟨h.vl,h.cl,h.prs,?_,?_,h.slp,h.slpN,h.wr,h.rd,h.above,h.cnt⟩
 ·show (c.toList++u++o).Nodup
  rw [hq];exact hn
 ·intro r hr
  have hr:r∈c.toList++u++o:=hr
  rw [hq] at hr
  exact hi r hr
theorem SimM.pick (sim:SimM T K B s t) (c:Option Nat) (u o:List Nat) (h:∀ i,(c=some i∨i∈u∨i∈o)->(i∈t.urg∨i∈t.oth)):SimM T K B { s with cur:=c,urg:=u,oth:=o } { t with cur:=c,urg:=u,oth:=o } :=
 {sim with
  cur:=rfl
  urg:=rfl
  oth:=rfl
  pr:=fun i hi hn=>(sim.pr i hi hn).weak (fun x=>by
   rcases x with x|x|x|x
   ·rcases h i (.inl x) with y|y
    ·exact .inr (.inl y)
    ·exact .inr (.inr (.inl y))
   ·rcases h i (.inr (.inl x)) with y|y
    ·exact .inr (.inl y)
    ·exact .inr (.inr (.inl y))
   ·rcases h i (.inr (.inr x)) with y|y
    ·exact .inr (.inl y)
    ·exact .inr (.inr (.inl y))
   ·exact .inr (.inr (.inr x))) }
theorem make_all (h:TInv T n st t) (sim:SimM T K B s t) (b:NBd N F t) (hc:t.cur=none):(∃ st',TInv T n st' (t.makeCurrent T))∧SimM T K B s.makeCurrent (t.makeCurrent T)∧NBd N F (t.makeCurrent T)∧(t.makeCurrent T).faulty=t.faulty∧(t.faulty=true->t.makeCurrent T=t):=by
 unfold MS.makeCurrent TS.makeCurrent
 rw [sim.faulty]
 by_cases hf:t.faulty=true
 ·rw [if_pos hf,if_pos hf]
  exact⟨⟨st,h⟩,sim,b,rfl,fun _=>rfl⟩
 ·rw [if_neg hf,if_neg hf]
  dsimp only
  have key:∃ st1,TInv T n st1 (if t.urg=[]∧t.oth=[] then t.wakeNext T else t)∧SimM T K B (if s.urg=[]∧s.oth=[] then s.wakeNext else s) (if t.urg=[]∧t.oth=[] then t.wakeNext T else t)∧NBd N F (if t.urg=[]∧t.oth=[] then t.wakeNext T else t)∧(if t.urg=[]∧t.oth=[] then t.wakeNext T else t).cur=none∧(if t.urg=[]∧t.oth=[] then t.wakeNext T else t).faulty=t.faulty:=by
   rw [sim.urg,sim.oth]
   split
   ·obtain⟨⟨st1,a1⟩,a2,a3,a4,a5⟩:=wakeNext_all h sim b
    exact⟨st1,a1,a2,a3,a4.trans hc,a5⟩
   ·exact⟨st,h,sim,b,hc,rfl⟩
  obtain⟨st1,a1,a2,a3,a4,a5⟩:=key
  generalize (if t.urg=[]∧t.oth=[] then t.wakeNext T else t)=U at *
  generalize (if s.urg=[]∧s.oth=[] then s.wakeNext else s)=S at *
  rw [a2.urg,a2.oth]
  have fb:∀ c u o,NBd N F { U with cur:=c,urg:=u,oth:=o }:=fun c u o=>a3.frm (Frm.setQ U c u o)
  refine⟨?_,?_,?_,?_,fun x=>absurd x hf⟩
  ·cases hu:U.urg with
   | cons q r=>exact⟨st1,a1.pick a4 (some q) r U.oth (by rw [hu];rfl)⟩
   | nil =>
    cases ho:U.oth with
    | cons q r =>
     have:=a1.pick a4 (some q) U.urg r (by rw [hu,ho];rfl)
     rw [hu] at this
     exact⟨st1,this⟩
    | nil =>
     have:=a1.pick a4 none U.urg U.oth (by rfl)
     rw [hu,ho] at this
     exact⟨st1,this⟩
  ·cases hu:U.urg with
   | cons q r =>
    have:=a2.pick (some q) r U.oth (fun i hi=>by
     rw [hu]
     rcases hi with x|x|x
     ·injection x with x;subst x;exact .inl (by simp)
     ·exact .inl (by simp [x])
     ·exact .inr x)
    exact this
   | nil =>
    cases ho:U.oth with
    | cons q r =>
     have:=a2.pick (some q) U.urg r (fun i hi=>by
      rw [ho]
      rcases hi with x|x|x
      ·injection x with x;subst x;exact .inr (by simp)
      ·exact .inl x
      ·exact .inr (by simp [x]))
     rw [hu] at this
     exact this
    | nil =>
     have:=a2.pick none U.urg U.oth (fun i hi=>by
      rcases hi with x|x|x
      ·cases x
      ·exact .inl x
      ·exact .inr x)
     rw [hu,ho] at this
     exact this
  ·cases hu:U.urg with
   | cons q r=>exact fb _ _ _
   | nil =>
    cases ho:U.oth with
    | cons q r=>exact fb _ _ _
    | nil=>exact fb _ _ _
  ·cases hu:U.urg with
   | cons q r=>exact a5
   | nil =>
    cases ho:U.oth with
    | cons q r=>exact a5
    | nil=>exact a5
end
end Go.Proofs.YtnhidaamfnjdjaaGreatDoor
namespace Go.Proofs.YtnhidaamfnjdjaaGreatDoor
open Go.RowKit Go.Maps
structure TmOk (T:List PNode) (K:List (Int×Int)) (n:Nat):Prop where
 wf:WfT T
 inr:InT T n
 kl:K.length≤1000000
 kids:∀ i,(T.getD i default).kids.length≤1000
 n2:n≤2000
theorem okOnce_of:∀ l:List (Int×Int×Nat),(l.map (fun x=>x.2.2)).Nodup->okOnce l=true
 | [],_=>rfl
 | x :: l,h=>by
  rw [List.map_cons,List.nodup_cons] at h
  show (l.all (fun y=>!Nat.beq x.2.2 y.2.2)&&okOnce l)=true
  rw [okOnce_of l h.2,Bool.and_true,List.all_eq_true]
  intro y hy
  have hne:x.2.2≠y.2.2:=fun e=>h.1 (List.mem_map.2 ⟨y,hy,e.symm⟩)
  rw [Bool.not_eq_true']
  cases hb:Nat.beq x.2.2 y.2.2 with
  | false=>rfl
  | true=>exact absurd (Nat.eq_of_beq_eq_true hb) hne
section
variable {T : List PNode} {K : List (Int × Int)} {B : List (Int × Int × Int)} {steps : Int} {s : MS} {t t' : TS} {p n N F : Nat} {st : Nat → St}
theorem TmOk.cd (ok:TmOk T K n) (k:Nat):(T.getD k default).cd.toNat<n:=by have:=ok.inr.cd k;omega
theorem okMake_of (h:TInv T n st t) (sim:SimM T K B s t) (hl:Lens s) (hsk:s.stack.length<900000000000) (hl2:Lens s.makeCurrent) (hsk2:s.makeCurrent.stack.length<900000000000):okMake false s=true:=by
 unfold okMake
 rw [okLens_of hl hsk,okInR_of sim h.inRt,okLens_of hl2 hsk2]
 have e:s.asleep=t.asleep:=sim.asleep
 rw [e]
 cases ha:t.asleep with
 | nil=>rfl
 | cons x r =>
  have h1:(x :: r).all (fun x=>okWoken s x.2.2)=true:=by
   rw [List.all_eq_true]
   intro y hy
   rw [<-ha] at hy
   obtain⟨q1,q2⟩:=h.slp y hy
   have k:=(h.prs y.2.2 q1).told
   rw [q2] at k
   have sp:=(sim.pr y.2.2 q1 (fun x=>x)).told
   unfold okWoken
   rw [sp,k,sim.len,Bool.and_eq_true,Nat.blt_eq]
   exact⟨q1,rfl⟩
  have h2:okOnce (x :: r)=true:=okOnce_of _ (by rw [<-ha];exact h.slpN)
  dsimp only
  rw [h1,h2]
  rfl
theorem MS.goOn_stack (s:MS) (q:Nat):(s.goOn q).stack=s.stack:=by
 unfold MS.goOn;dsimp only;split <;> rfl
theorem MS.unreads_stack:∀ (o:List (Int×Int×Int)) (s:MS),(o.foldl MS.unread s).stack=s.stack
 | [],_=>rfl
 | b :: o,s=>by rw [List.foldl_cons,MS.unreads_stack o];rfl
theorem MS.tell_stack (s:MS) (q:Nat) (c v:Int):(s.tell q c v).stack=s.stack:=by
 unfold MS.tell MS.hasRead
 dsimp only
 split
 ·rw [MS.goOn_stack]
  split
  ·exact MS.unreads_stack _ s
  ·exact MS.unreads_stack _ s
 ·exact MS.goOn_stack s q
theorem MS.wakeAll_stack:∀ (f:Nat) (s:MS),(MS.wakeAll f s).stack=s.stack
 | 0,_=>rfl
 | f+1,s=>by
  unfold MS.wakeAll
  split
  ·rfl
  ·split
   ·rw [MS.wakeAll_stack f,MS.tell_stack]
   ·rfl
theorem MS.make_stack (s:MS):s.makeCurrent.stack=s.stack:=by
 unfold MS.makeCurrent
 split
 ·rfl
 ·dsimp only
  have e:(if s.urg=[]∧s.oth=[] then s.wakeNext else s).stack=s.stack:=by
   split
   ·unfold MS.wakeNext
    split
    ·rfl
    ·rw [MS.wakeAll_stack]
   ·rfl
  split
  ·exact e
  ·split
   ·exact e
   ·exact e
theorem goes_make (hl:okLens s=true) (hc:s.cur=none) (d:Int) (hd:d<steps) (ok:okMake false s=true) {q:Nat} (hm:s.makeCurrent.cur=some q):Goes K B steps d s d s.makeCurrent:=by
 rintro r ⟨f,hf⟩
 refine⟨f+1,?_⟩
 unfold runC turnC
 rw [hl,hc]
 dsimp only
 rw [if_neg (by simp),if_pos hd,if_pos ok,hm]
 exact hf
theorem run_make (hl:okLens s=true) (hc:s.cur=none) (d:Int) (hd:d<steps) (ok:okMake false s=true) (hm:s.makeCurrent.cur=none):runC false K B steps 1 d s=some (d,s.makeCurrent):=by
 unfold runC turnC
 rw [hl,hc]
 dsimp only
 rw [if_neg (by simp),if_pos hd,if_pos ok,hm]
theorem run_stay (hl:okLens s=true) (hc:s.cur=none) (d:Int) (hd:¬ d<steps):runC false K B steps 1 d s=some (d,s):=by
 unfold runC turnC
 rw [hl,hc]
 dsimp only
 rw [if_neg (by simp),if_neg hd]
theorem run_step (hl:Lens s) (hc:s.cur=some p) (hp:p<s.procs.length) {a:Nat} (hK:K[a]?=some (0,0)) (d:Int) (hd:steps≤d):runC false K B steps 1 d (s.cfg p (s.pr p) a [])=some (d,s.cfg p (s.pr p) a []):=by
 have hol:okLens (s.cfg p (s.pr p) a [])=true:=okLens_of hl (by simp [MS.cfg])
 have hcc:(s.cfg p (s.pr p) a []).cur=some p:=hc
 have hpr:=cfg_pr hp (s.pr p) a []
 have hal:a<K.length:=(List.getElem?_eq_some_iff.1 hK).1
 have hkd:K.getD a (0,0)=(0,0):=by rw [List.getD,hK];rfl
 have hpl:p<(s.cfg p (s.pr p) a []).procs.length:=by rw [cfg_len];exact hp
 unfold runC turnC
 rw [hol,hcc]
 dsimp only
 rw [hpr]
 dsimp only
 rw [if_neg (by simp),if_pos ⟨inB_of hal,by rw [Nat.blt_eq];exact hpl⟩,Int.toNat_natCast,hkd,if_pos ⟨rfl,hd⟩]
def turnOk (T:List PNode) (K:List (Int×Int)) (B:List (Int×Int×Int)) (steps:Int) (n N F:Nat) (d:Int) (s:MS) (r:(Int×TS) ⊕ (Int×TS)):Prop :=
 match r with
 | .inl r=>(∃ s',Goes K B steps d s r.1 s'∧SimM T K B s' r.2)∧(∃ st',TInv T n st' r.2)∧(r.2.cur≠none->r.2.faulty=false)∧((r.1=d∧NBd N F r.2)∨(r.1=d+1∧d<steps∧NBd (N+1) F r.2))
 | .inr r=>(∃ s',(∃ f,runC false K B steps f d s=some (r.1,s'))∧SimM T K B s' r.2)∧(∃ st',TInv T n st' r.2)∧(r.2.cur≠none->r.2.faulty=false)∧r.1=d∧NBd N F r.2
theorem sim_turn (ok:TmOk T K n) (h:TInv T n st t) (sim:SimM T K B s t) (b:NBd N F t) (hf:t.cur≠none->t.faulty=false) (hN:N≤400000000) (hF:F≤17600000000000) (d:Int):turnOk T K B steps n N F d s (TS.turn T steps d t):=by
 obtain⟨hl,hu,ho⟩:=h.lens sim b (by omega) ok.n2
 have hsk:s.stack.length<900000000000:=by have:=sim.stk;omega
 have hol:=okLens_of hl hsk
 unfold TS.turn
 cases hc:t.cur with
 | none =>
  have hcs:s.cur=none:=sim.cur.trans hc
  dsimp only
  by_cases hd:d<steps
  ·rw [if_pos hd]
   obtain⟨⟨st1,a1⟩,a2,a3,a4,a5⟩:=make_all h sim b hc
   obtain⟨hl2,_,_⟩:=a1.lens a2 a3 (by omega) ok.n2
   have okm:=okMake_of h sim hl hsk hl2 (by rw [MS.make_stack];exact hsk)
   have fl:(t.makeCurrent T).cur≠none->(t.makeCurrent T).faulty=false:=by
    intro hn
    cases hff:t.faulty with
    | false=>rw [a4,hff]
    | true=>rw [a5 hff,hc] at hn;exact absurd rfl hn
   cases hm:(t.makeCurrent T).cur with
   | none =>
    exact⟨⟨_,⟨1,run_make hol hcs d hd okm (a2.cur.trans hm)⟩,a2⟩,⟨st1,a1⟩,fl,rfl,a3⟩
   | some q =>
    exact⟨⟨_,goes_make hol hcs d hd okm (a2.cur.trans hm),a2⟩,⟨st1,a1⟩,fl,.inl ⟨rfl,a3⟩⟩
  ·rw [if_neg hd]
   exact⟨⟨_,⟨1,run_stay hol hcs d hd⟩,sim⟩,⟨st,h⟩,hf,rfl,b⟩
 | some p =>
  have hff:=hf (by rw [hc];simp)
  have ck:=h.curK sim hc hff hl
  obtain⟨hp,hr,_,_⟩:=h.curq hc
  have pk:=h.prs p hp
  dsimp only
  cases hfr:t.free1 T p with
  | some t1 =>
   dsimp only
   obtain⟨s',g,q⟩:=sim_free (steps:=steps) ok.wf ck ok.inr h.vl (fun kd hkd=>(pk.pile kd hkd).1) hfr d
   obtain⟨i1,i2⟩:=h.free1 ok.wf hc hfr
   have fr:=Frm.free1 hfr
   exact⟨⟨s',g,q⟩,⟨st,i1⟩,fun _=>fr.flt.trans hff,.inl ⟨rfl,b.frm fr⟩⟩
  | none =>
   dsimp only
   cases hpile:(t.pr p).pile with
   | nil =>
    dsimp only
    have hnf:=h.notFin hp (by rw [hr];simp)
    obtain⟨s',g,q⟩:=sim_end (steps:=steps) ck hpile (fun q hq=>by
     obtain⟨q1,q2,q3⟩:=kid_pos h hp hnf hq
     have hql:q<t.procs.length:=by omega
     have kq:=(h.prs q hql).told
     rw [q3] at kq
     have hcnt:=h.cnt q hql
     have hle:t.procs.countP (isKid q)≤t.procs.length:=List.countP_le_length
     have hb:=b.len
     exact⟨by omega,hql,q2,by omega,kq⟩) d
    have fr:=Frm.endP (T:=T) t p
    exact⟨⟨s',g,q⟩,h.endP hc,fun _=>fr.flt.trans hff,.inl ⟨rfl,b.frm fr⟩⟩
   | cons x l =>
    obtain⟨i,e⟩:=x
    dsimp only
    have hk:(T.getD i default).kind≠7∧(T.getD i default).kind≠15∧(T.getD i default).kind≠16:=by
     unfold TS.free1 at hfr
     rw [hpile] at hfr
     dsimp only at hfr
     by_cases k7:(T.getD i default).kind=7
     ·rw [if_pos k7] at hfr;cases hfr
     ·rw [if_neg k7] at hfr
      by_cases k15:(T.getD i default).kind=15
      ·rw [if_pos k15] at hfr;cases hfr
      ·rw [if_neg k15] at hfr
       by_cases k16:(T.getD i default).kind=16
       ·rw [if_pos k16] at hfr;cases hfr
       ·exact⟨k7,k15,k16⟩
    have pi:i<T.length∧procK (T.getD i default).kind:=pk.pile (i,e) (by rw [hpile];simp)
    by_cases hd:steps≤d
    ·rw [if_pos hd]
     obtain⟨a,hh,hopn,g⟩:=ck.at_ (steps:=steps) d
     have mv:=ck.move a (t.pr p) hopn hh.rep rfl rfl rfl ck.told
     have e0:t.setPr p (t.pr p)=t:=by unfold TS.setPr;rw [TS.set_self t hp]
     rw [e0] at mv
     rw [hpile] at hh
     have hnode:∃ c,Seg T K B (.node i) a c:=by
      rcases hh with ⟨_,c,h1,_⟩|⟨hk7,_⟩
      ·exact⟨c,h1⟩
      ·exact absurd hk7 hk.1
     obtain⟨c,hs⟩:=hnode
     have hrun:=run_step (K:=K) (B:=B) hl ck.curS ck.ltS (step_of hs hk) d hd
     exact⟨⟨_,g _ ⟨1,hrun⟩,mv⟩,⟨st,h⟩,fun _=>hff,rfl,b⟩
    ·rw [if_neg hd]
     have hkl:=ok.kids i
     have bt:=b.time
     have bs:=b.slept
     have bl:=b.len
     have tm:0≤t.time∧t.time<9000000000000000000:=⟨bt.1,by have:=bt.2;omega⟩
     obtain⟨s',g,q⟩:=sim_step (steps:=steps) ck ok.wf ok.inr h.vl h.cl ok.kl pi.1 pi.2 hpile hk (by omega) ⟨fun c hc0=>h.rdOk (fun k=>(ok.inr.cd k).1) c hc0,h.wrOk b (by omega) hF,h.inRt,tm.1,tm.2,bs.1,by have:=bs.2;omega,by rw [pk.below (by rw [hr];simp)];exact Int.le_refl _,by rw [pk.below (by rw [hr];simp)];decide,hu,ho⟩ d (by omega)
     have stp:=h.stepN ok.wf ok.cd (fun j=>by have:=ok.kids j;omega) hc hpile hk
     rcases step_frm ok.kids t p i tm with fr|fr
     ·exact⟨⟨s',g,q⟩,stp,fun _=>fr.flt.trans hff,.inr ⟨rfl,by omega,b.step fr⟩⟩
     ·refine⟨⟨s',g,q⟩,stp,fun hn=>?_,.inr ⟨rfl,by omega,?_⟩⟩
      ·rw [fr] at hn;exact absurd rfl hn
      ·rw [fr]
       have f0:Frm 0 t (t.pop p):=Frm.setPr t p _
       have b2:=b.frm f0
       exact (⟨b2.len,b2.out,b2.slept,b2.time,b2.slp,b2.nums⟩:NBd N F (t.pop p).fault).more
end
end Go.Proofs.YtnhidaamfnjdjaaGreatDoor
namespace Go.Proofs.YtnhidaamfnjdjaaGreatDoor
open Go.RowKit Go.Maps
section
variable {T : List PNode} {K : List (Int × Int)} {B : List (Int × Int × Int)} {steps : Int} {s : MS} {t t' : TS} {p q n N F : Nat} {st : Nat → St}
def frW (T:List PNode):Nat->Nat->Nat
 | 0,_=>0
 | f+1,i =>
  if (T.getD i default).kind=7 then ((T.getD i default).kids.map (frW T f)).sum+(T.getD i default).kids.length+1
  else if (T.getD i default).kind=15∨(T.getD i default).kind=16 then frW T f ((T.getD i default).kids.getD 0 0)+1
  else 0
theorem frW_fuel (wf:WfT T):∀ (f g i:Nat),T.length - i≤f->T.length - i≤g->i<T.length->frW T f i=frW T g i
 | 0,_,i,hf,_,hi=>by omega
 | f+1,0,i,_,hg,hi=>by omega
 | f+1,g+1,i,hf,hg,hi=>by
  have kid:∀ k∈(T.getD i default).kids,frW T f k=frW T g k:=fun k hk=>by
   have:=wf.up i k hk
   exact frW_fuel wf f g k (by omega) (by omega) this.2
  unfold frW
  by_cases h7:(T.getD i default).kind=7
  ·rw [if_pos h7,if_pos h7,List.map_congr_left kid]
  ·rw [if_neg h7,if_neg h7]
   by_cases h15:(T.getD i default).kind=15∨(T.getD i default).kind=16
   ·rw [if_pos h15,if_pos h15]
    have one:=wf.one i hi (by omega)
    have hm:(T.getD i default).kids.getD 0 0∈(T.getD i default).kids:=by
     rw [getD_lt (T.getD i default).kids 0 0 (by omega)]
     exact List.getElem_mem _
    rw [kid _ hm]
   ·rw [if_neg h15,if_neg h15]
def wN (T:List PNode) (i:Nat):Nat:=frW T T.length i
def wE (T:List PNode) (x:Nat×Nat):Nat :=
 if (T.getD x.1 default).kind=7 then (((T.getD x.1 default).kids.drop x.2).map (wN T)).sum+((T.getD x.1 default).kids.length - x.2)+1
 else if (T.getD x.1 default).kind=15∨(T.getD x.1 default).kind=16 then wN T ((T.getD x.1 default).kids.getD 0 0)+1
 else 0
def wP (T:List PNode) (l:List (Nat×Nat)):Nat:=(l.map (wE T)).sum
theorem wE_zero (wf:WfT T) (i:Nat) (hi:i<T.length):wE T (i,0)=wN T i:=by
 have e:wN T i=frW T (T.length - 1+1) i:=by unfold wN;rw [Nat.sub_add_cancel (by omega)]
 have kid:∀ k∈(T.getD i default).kids,wN T k=frW T (T.length - 1) k:=fun k hk=>by
  have:=wf.up i k hk
  exact frW_fuel wf _ _ k (by omega) (by omega) this.2
 rw [e]
 unfold wE frW
 dsimp only
 rw [List.drop_zero,Nat.sub_zero]
 by_cases h7:(T.getD i default).kind=7
 ·rw [if_pos h7,if_pos h7,List.map_congr_left kid]
 ·rw [if_neg h7,if_neg h7]
  by_cases h15:(T.getD i default).kind=15∨(T.getD i default).kind=16
  ·rw [if_pos h15,if_pos h15]
   have one:=wf.one i hi (by omega)
   have hm:(T.getD i default).kids.getD 0 0∈(T.getD i default).kids:=by
    rw [getD_lt (T.getD i default).kids 0 0 (by omega)]
    exact List.getElem_mem _
   rw [kid _ hm]
  ·rw [if_neg h15,if_neg h15]
def fins (t:TS):List Bool:=t.procs.map (fun y=>y.fin)
theorem fins_set (t:TS) (p:Nat) (y:TP) (h:y.fin=(t.pr p).fin):fins (t.setPr p y)=fins t:=by
 unfold fins TS.setPr
 dsimp only
 rw [List.map_set]
 apply List.ext_getElem?
 intro j
 rw [List.getElem?_set]
 split
 ·rename_i e
  subst e
  split
  ·rename_i hp
   rw [List.length_map] at hp
   rw [List.getElem?_map,List.getElem?_eq_getElem hp]
   have e1:t.pr p=t.procs[p]:=getD_lt _ _ _ hp
   rw [h,e1]
   rfl
  ·rename_i hp
   rw [List.getElem?_eq_none (by omega)]
 ·rfl
theorem fins_goOn (t:TS) (q:Nat):fins (t.goOn q)=fins t:=by
 unfold TS.goOn
 dsimp only
 split
 ·exact fins_set t q _ rfl
 ·exact fins_set t q _ rfl
theorem wakeAll_fins:∀ (f:Nat) {t:TS} {st:Nat->St},TInv T n st t->fins (TS.wakeAll T f t)=fins t
 | 0,_,_,_=>rfl
 | f+1,t,st,h=>by
  unfold TS.wakeAll
  split
  ·rfl
  ·rename_i x r ha
   split
   ·have hp:=tPop_perm (x :: r) r.length rfl
    have hm:∀ y∈(popF (x :: r)).1 :: (popF (x :: r)).2,y∈t.asleep:=fun y hy=>by rw [ha];exact hp.mem_iff.1 hy
    have hnd:(((popF (x :: r)).1 :: (popF (x :: r)).2).map (fun x=>x.2.2)).Nodup:=by
     rw [(hp.map _).nodup_iff,<-ha]
     exact h.slpN
    rw [List.map_cons,List.nodup_cons] at hnd
    generalize popF (x :: r)=P at *
    obtain⟨q1,q2⟩:=h.slp P.1 (hm _ (List.mem_cons_self ..))
    have h1:=h.setAsleep P.2 (fun y hy=>h.slp y (hm y (List.mem_cons_of_mem _ hy))) hnd.2
    have kt:=(h.prs P.1.2.2 q1)
    rw [q2] at kt
    have tl:({ t with asleep:=P.2 }:TS).tell T P.1.2.2 0 0=({ t with asleep:=P.2 }:TS).goOn P.1.2.2:=by
     unfold TS.tell
     rw [if_neg]
     have e:(({ t with asleep:=P.2 }:TS).pr P.1.2.2).told=1:=kt.told
     rw [e]
     decide
    have i2:TInv T n (updS st P.1.2.2 .run) (({ t with asleep:=P.2 }:TS).goOn P.1.2.2):=by
     refine h1.goOn q1 (by rw [q2];simp) (by rw [q2];simp) (kt.below (by simp)) ?_ (h1.noW (fun c=>by rw [q2];simp)) (h1.noR (by rw [q2];simp))
     intro y hy e
     exact hnd.1 (List.mem_map.2 ⟨y,hy,e⟩)
    rw [tl,wakeAll_fins f i2]
    exact fins_goOn { t with asleep:=P.2 } P.1.2.2
   ·rfl
theorem make_fins (h:TInv T n st t):fins (t.makeCurrent T)=fins t:=by
 unfold TS.makeCurrent
 split
 ·rfl
 ·dsimp only
  have e:fins (if t.urg=[]∧t.oth=[] then t.wakeNext T else t)=fins t:=by
   split
   ·unfold TS.wakeNext
    split
    ·rfl
    ·rename_i x r _
     exact (wakeAll_fins (T:=T) (r.length+1) (h.setTime x.1))
   ·rfl
  split
  ·exact e
  ·split
   ·exact e
   ·exact e
theorem free_less (wf:WfT T) (h:TInv T n st t) (hc:t.cur=some p) {t1:TS} (hf:t.free1 T p=some t1):fins t1=fins t∧wP T (t1.pr p).pile<wP T (t.pr p).pile:=by
 obtain⟨hp,hr,_,_⟩:=h.curq hc
 have k:=h.prs p hp
 unfold TS.free1 at hf
 cases hpile:(t.pr p).pile with
 | nil=>rw [hpile] at hf;cases hf
 | cons x l =>
  obtain⟨i,e⟩:=x
  rw [hpile] at hf
  have hall:=k.pile
  rw [hpile] at hall
  have hi:i<T.length:=(hall (i,e) (by simp)).1
  have epop:t.pop p=t.todo p l:=by unfold TS.pop;rw [hpile];rfl
  have done:∀ l',fins (t.todo p l')=fins t:=fun l'=>fins_set t p _ rfl
  have epr:∀ l',((t.todo p l').pr p).pile=l':=fun l'=>by rw [TS.todo_self t hp]
  have kidm:∀ d,d<(T.getD i default).kids.length->(T.getD i default).kids.getD d 0∈(T.getD i default).kids:=fun d hd=>by
   rw [getD_lt (T.getD i default).kids d 0 hd]
   exact List.getElem_mem _
  dsimp only at hf
  rw [epop] at hf
  by_cases h7:(T.getD i default).kind=7
  ·rw [if_pos h7] at hf
   injection hf with hf
   by_cases hd:e<(T.getD i default).kids.length
   ·rw [if_pos hd,TS.todo_push t hp,TS.todo_push t hp] at hf
    rw [<-hf]
    refine⟨done _,?_⟩
    rw [epr]
    have hk:=(wf.up i _ (kidm e hd)).2
    show (List.map (wE T) (((T.getD i default).kids.getD e 0,0) :: (i,e+1) :: l)).sum<(List.map (wE T) ((i,e) :: l)).sum
    simp only [List.map_cons,List.sum_cons]
    rw [wE_zero wf _ hk]
    have e1:wE T (i,e)=((((T.getD i default).kids.drop e).map (wN T)).sum+((T.getD i default).kids.length - e)+1):=by unfold wE;dsimp only;rw [if_pos h7]
    have e2:wE T (i,e+1)=((((T.getD i default).kids.drop (e+1)).map (wN T)).sum+((T.getD i default).kids.length - (e+1))+1):=by unfold wE;dsimp only;rw [if_pos h7]
    rw [e1,e2,List.drop_eq_getElem_cons hd,List.map_cons,List.sum_cons,getD_lt (T.getD i default).kids e 0 hd]
    omega
   ·rw [if_neg hd] at hf
    rw [<-hf]
    refine⟨done _,?_⟩
    rw [epr]
    show (List.map (wE T) l).sum<(List.map (wE T) ((i,e) :: l)).sum
    simp only [List.map_cons,List.sum_cons]
    have e1:wE T (i,e)=((((T.getD i default).kids.drop e).map (wN T)).sum+((T.getD i default).kids.length - e)+1):=by unfold wE;dsimp only;rw [if_pos h7]
    rw [e1]
    omega
  ·rw [if_neg h7] at hf
   have less:(T.getD i default).kind=15∨(T.getD i default).kind=16->wP T (((T.getD i default).kids.getD 0 0,0) :: l)<wP T ((i,e) :: l):=by
    intro h15
    have one:=wf.one i hi (by omega)
    have hk:=(wf.up i _ (kidm 0 (by omega))).2
    show (List.map (wE T) (((T.getD i default).kids.getD 0 0,0) :: l)).sum<(List.map (wE T) ((i,e) :: l)).sum
    simp only [List.map_cons,List.sum_cons]
    rw [wE_zero wf _ hk]
    have e1:wE T (i,e)=wN T ((T.getD i default).kids.getD 0 0)+1:=by unfold wE;dsimp only;rw [if_neg h7,if_pos h15]
    rw [e1]
    omega
   by_cases h15:(T.getD i default).kind=15
   ·rw [if_pos h15] at hf
    injection hf with hf
    have e1:(({ t with vars:=t.vars.set (T.getD i default).nd.toNat 0 }:TS).pop p).down T p i={ t.todo p (((T.getD i default).kids.getD 0 0,0) :: l) with vars:=t.vars.set (T.getD i default).nd.toNat 0 }:=by
     have:({ t with vars:=t.vars.set (T.getD i default).nd.toNat 0 }:TS).pop p=({ t with vars:=t.vars.set (T.getD i default).nd.toNat 0 }:TS).todo p l:=by
      unfold TS.pop TS.todo
      show TS.setPr _ p { t.pr p with pile:=(t.pr p).pile.tail }=TS.setPr _ p { t.pr p with pile:=l }
      rw [hpile]
      rfl
     rw [this,TS.todo_down (T:=T) ({ t with vars:=t.vars.set (T.getD i default).nd.toNat 0 }:TS) hp]
     rfl
    rw [e1] at hf
    rw [<-hf]
    refine⟨done _,?_⟩
    show wP T ((t.todo p (((T.getD i default).kids.getD 0 0,0) :: l)).pr p).pile<_
    rw [epr]
    exact less (.inl h15)
   ·rw [if_neg h15] at hf
    by_cases h16:(T.getD i default).kind=16
    ·rw [if_pos h16] at hf
     injection hf with hf
     rw [TS.todo_down t hp] at hf
     rw [<-hf]
     refine⟨done _,?_⟩
     rw [epr]
     exact less (.inr h16)
    ·rw [if_neg h16] at hf;cases hf
theorem end_fins (h:TInv T n st t) (hc:t.cur=some p):(fins (t.endP T p)).count false<(fins t).count false:=by
 obtain⟨hp,hr,_,_⟩:=h.curq hc
 have hnf:=h.notFin hp (by rw [hr];simp)
 have hset:fins (t.setPr p { t.pr p with fin:=true })=(fins t).set p true:=by
  unfold fins TS.setPr
  dsimp only
  rw [List.map_set]
 have hlt:((fins t).set p true).count false<(fins t).count false:=by
  have hpl:p<(fins t).length:=by unfold fins;rw [List.length_map];exact hp
  have hv:(fins t)[p]=false:=by
   have e1:t.pr p=t.procs[p]:=getD_lt _ _ _ hp
   have e2:(fins t)[p]?=some false:=by
    unfold fins
    rw [List.getElem?_map,List.getElem?_eq_getElem hp,<-e1,Option.map_some,hnf]
   rw [List.getElem?_eq_getElem hpl] at e2
   injection e2
  rw [List.count_set hpl,hv]
  have:0<(fins t).count false:=List.count_pos_iff.2 (by rw [<-hv];exact List.getElem_mem _)
  simp
  omega
 cases hu:(t.pr p).above with
 | none =>
  rw [TS.endP_none (T:=T) t hp hu]
  show (fins (t.setPr p { t.pr p with fin:=true })).count false<_
  rw [hset]
  exact hlt
 | some q =>
  obtain⟨i1,hqp,hq,hj,hpos⟩:=h.finish2 hc hu
  rw [TS.endP_some (T:=T) t hp hu hqp hq]
  have e1:fins ((t.setPr p { t.pr p with fin:=true }).leave.setPr q { t.pr q with below:=(t.pr q).below - 1 })=(fins t).set p true:=by
   rw [fins_set]
   ·exact hset
   ·have en:(t.setPr p { t.pr p with fin:=true }).leave.pr q=t.pr q:=TS.pr_ne t hqp _
    rw [en]
  split
  ·have hq1:q<(t.setPr p { t.pr p with fin:=true }).leave.procs.length:=by show q<(t.setPr p _).procs.length;rw [TS.len_set];exact hq
   have hq2:q<((t.setPr p { t.pr p with fin:=true }).leave.setPr q { t.pr q with below:=(t.pr q).below - 1 }).procs.length:=by rw [TS.len_set];exact hq1
   have kq:=i1.prs q hq2
   have ej:updS st p .dead q=.join:=by rw [updS_ne _ _ hqp];exact hj
   rw [ej] at kq
   unfold TS.tell
   rw [if_neg (by rw [kq.told];decide),fins_goOn,e1]
   exact hlt
  ·rw [e1];exact hlt
end
end Go.Proofs.YtnhidaamfnjdjaaGreatDoor
namespace Go.Proofs.YtnhidaamfnjdjaaGreatDoor
open Go.RowKit Go.Maps
section
variable {T : List PNode} {K : List (Int × Int)} {B : List (Int × Int × Int)} {steps : Int} {n F : Nat}
structure Both (T:List PNode) (K:List (Int×Int)) (B:List (Int×Int×Int)) (n N F:Nat) (s:MS) (t:TS):Prop where
 inv:∃ st,TInv T n st t
 sim:SimM T K B s t
 bd:NBd N F t
 flt:t.cur≠none->t.faulty=false
def Ends (T:List PNode) (K:List (Int×Int)) (B:List (Int×Int×Int)) (steps:Int) (n F:Nat) (P:TS->Prop) (d:Int) (N:Nat) (s:MS):Prop :=
 ∃ (d':Int) (s':MS) (t':TS) (N':Nat),(∃ f,runC false K B steps f d s=some (d',s'))∧Both T K B n N' F s' t'∧P t'∧d≤d'∧(d'≤steps∨d'=d)∧(N':Int)≤N+(d' - d)
theorem Ends.goes {P:TS->Prop} {d d1:Int} {N N1:Nat} {s s1:MS} (g:Goes K B steps d s d1 s1) (hd:d≤d1) (hs:d1=d∨d1≤steps) (hN:(N1:Int)≤N+(d1 - d)) (h:Ends T K B steps n F P d1 N1 s1):Ends T K B steps n F P d N s:=by
 obtain⟨d',s',t',N',h1,h2,h3,h4,h5,h6⟩:=h
 exact⟨d',s',t',N',g _ h1,h2,h3,by omega,by omega,by omega⟩
def TKept (T:List PNode) (n:Nat) (steps:Int) (P:TS->Prop):Prop:=∀ (d:Int) (t:TS) (st:Nat->St),TInv T n st t->P t->match TS.turn T steps d t with | .inl r=>P r.2 | .inr r=>P r.2
theorem run_cur (ok:TmOk T K n) (hF:F≤17600000000000) {P:TS->Prop} (hP:TKept T n steps P) (k u:Nat)
  (ihk:∀ (d:Int) (s:MS) (t:TS) (N:Nat),(steps - d).toNat<k->Both T K B n N F s t->P t->(N:Int)+(steps - d)≤400000000->N≤400000000->Ends T K B steps n F P d N s)
  (ihu:∀ (d:Int) (s:MS) (t:TS) (N:Nat),(steps - d).toNat=k->(fins t).count false<u->Both T K B n N F s t->P t->(N:Int)+(steps - d)≤400000000->N≤400000000->Ends T K B steps n F P d N s) :
  ∀ (m:Nat) (d:Int) (s:MS) (t:TS) (N p:Nat),(steps - d).toNat=k->(fins t).count false=u->t.cur=some p->wP T (t.pr p).pile=m->Both T K B n N F s t->P t->(N:Int)+(steps - d)≤400000000->N≤400000000->Ends T K B steps n F P d N s:=by
 intro m
 induction m using Nat.strongRecOn with
 | _ m ihm =>
  intro d s t N p hk hu hc hm hb hp hN hN2
  obtain⟨⟨st,inv⟩,sim,bd,flt⟩:=hb
  have tk:=sim_turn (steps:=steps) ok inv sim bd flt hN2 hF d
  have pk:=hP d t st inv hp
  unfold TS.turn at tk pk
  rw [hc] at tk pk
  dsimp only at tk pk
  cases hf:t.free1 T p with
  | some t1 =>
   rw [hf] at tk pk
   dsimp only at tk pk
   obtain⟨⟨s1,g,q⟩,⟨st1,i1⟩,f1,hnb⟩:=tk
   obtain⟨e1,e2⟩:=free_less ok.wf inv hc hf
   have hc1:=(inv.free1 ok.wf hc hf).2
   have nb:NBd N F t1:=by
    rcases hnb with ⟨_,x⟩|⟨x,_,_⟩
    ·exact x
    ·exact absurd x (by show ¬ d=d+1;omega)
   exact Ends.goes g (Int.le_refl _) (.inl rfl) (by omega) (ihm _ (by rw [<-hm];exact e2) d s1 t1 N p hk (by rw [e1];exact hu) hc1 rfl ⟨⟨st1,i1⟩,q,nb,f1⟩ pk hN hN2)
  | none =>
   rw [hf] at tk pk
   dsimp only at tk pk
   cases hpile:(t.pr p).pile with
   | nil =>
    rw [hpile] at tk pk
    dsimp only at tk pk
    obtain⟨⟨s1,g,q⟩,i1,f1,hnb⟩:=tk
    have nb:NBd N F (t.endP T p):=by
     rcases hnb with ⟨_,x⟩|⟨x,_,_⟩
     ·exact x
     ·exact absurd x (by show ¬ d=d+1;omega)
    have hl:=end_fins inv hc
    exact Ends.goes g (Int.le_refl _) (.inl rfl) (by omega) (ihu d s1 (t.endP T p) N hk (by omega) ⟨i1,q,nb,f1⟩ pk hN hN2)
   | cons x l =>
    rw [hpile] at tk pk
    obtain⟨i,e⟩:=x
    dsimp only at tk pk
    by_cases hd:steps≤d
    ·rw [if_pos hd] at tk pk
     obtain⟨⟨s1,hr,q⟩,i1,f1,_,nb⟩:=tk
     exact⟨d,s1,t,N,hr,⟨i1,q,nb,f1⟩,pk,Int.le_refl _,.inr rfl,by omega⟩
    ·rw [if_neg hd] at tk pk
     obtain⟨⟨s1,g,q⟩,i1,f1,hnb⟩:=tk
     have nb:NBd (N+1) F (t.stepN T p i):=by
      rcases hnb with ⟨x,_⟩|⟨_,_,x⟩
      ·exact absurd x (by show ¬ d+1=d;omega)
      ·exact x
     refine Ends.goes (N1:=N+1) g (by show d≤d+1;omega) (.inr (by show d+1≤steps;omega)) (by show ((N+1:Nat):Int)≤N+(d+1 - d);omega) (ihk (d+1) s1 _ (N+1) (by omega) ⟨i1,q,nb,f1⟩ pk ?_ ?_)
     ·push_cast;omega
     ·omega
theorem run_all (ok:TmOk T K n) (hF:F≤17600000000000) {P:TS->Prop} (hP:TKept T n steps P):∀ (k u:Nat) (d:Int) (s:MS) (t:TS) (N:Nat),(steps - d).toNat=k->(fins t).count false=u->Both T K B n N F s t->P t->(N:Int)+(steps - d)≤400000000->N≤400000000->Ends T K B steps n F P d N s:=by
 intro k
 induction k using Nat.strongRecOn with
 | _ k ihk =>
  intro u
  induction u using Nat.strongRecOn with
  | _ u ihu =>
   intro d s t N hk hu hb hp hN hN2
   have cur:=run_cur ok hF hP k u (fun d s t N h hb hp h1 h2=>ihk _ h _ d s t N rfl rfl hb hp h1 h2) (fun d s t N h h' hb hp h1 h2=>ihu _ h' d s t N h rfl hb hp h1 h2)
   cases hc:t.cur with
   | some p=>exact cur _ d s t N p hk hu hc rfl hb hp hN hN2
   | none =>
    obtain⟨⟨st,inv⟩,sim,bd,flt⟩:=hb
    have tk:=sim_turn (steps:=steps) ok inv sim bd flt hN2 hF d
    have pk:=hP d t st inv hp
    unfold TS.turn at tk pk
    rw [hc] at tk pk
    dsimp only at tk pk
    by_cases hd:d<steps
    ·rw [if_pos hd] at tk pk
     cases hm:(t.makeCurrent T).cur with
     | none =>
      rw [hm] at tk pk
      obtain⟨⟨s1,hr,q⟩,i1,f1,_,nb⟩:=tk
      exact⟨d,s1,_,N,hr,⟨i1,q,nb,f1⟩,pk,Int.le_refl _,.inr rfl,by omega⟩
     | some p =>
      rw [hm] at tk pk
      obtain⟨⟨s1,g,q⟩,i1,f1,hnb⟩:=tk
      have nb:NBd N F (t.makeCurrent T):=by
       rcases hnb with ⟨_,x⟩|⟨x,_,_⟩
       ·exact x
       ·exact absurd x (by show ¬ d=d+1;omega)
      exact Ends.goes g (Int.le_refl _) (.inl rfl) (by omega) (cur _ d s1 _ N p hk (by rw [make_fins inv];exact hu) hm rfl ⟨i1,q,nb,f1⟩ pk hN hN2)
    ·rw [if_neg hd] at tk pk
     obtain⟨⟨s1,hr,q⟩,i1,f1,_,nb⟩:=tk
     exact⟨d,s1,t,N,hr,⟨i1,q,nb,f1⟩,pk,Int.le_refl _,.inr rfl,by omega⟩
end
end Go.Proofs.YtnhidaamfnjdjaaGreatDoor
