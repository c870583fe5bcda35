import Derived.Test.YtnhidaamfnjdjaaGreatDoorZTmW
import Derived.Test.YtnhidaamfnjdjaaGreatDoorZTxA
namespace Go.Proofs.YtnhidaamfnjdjaaGreatDoor
open Go.RowKit Go.Maps
theorem varsIn_of {n:Nat}:∀ e:PE,e.InN (n:Int)->varsIn n e
 | .nil,_=>trivial
 | .num _,_=>trivial
 | .var _ d,h=>by
  have h:0≤d∧d<(n:Int):=h
  exact⟨h.1,by omega⟩
 | .pair _ a b,h=>⟨varsIn_of a h.1,varsIn_of b h.2⟩
theorem KRow.few {E:Nat->Nat}:∀ {ks:List Nat} {a e:Nat},KRow E a ks e->ks.length+a≤e
 | [],_,_,h=>by
  have h:_=_:=h
  simp;omega
 | k :: ks,a,e,⟨h1,h2,h3⟩=>by
  have:=h3.few
  rw [List.length_cons]
  omega
theorem TextOk.tmOk {T:List PNode} {r n:Nat} {E:Nat->Nat} (h:TextOk T r n E):TmOk T (makeF T r).code n where
 wf:=h.wf
 inr:=⟨fun i=>(h.inr i).nd,fun i=>(h.inr i).cd,fun i=>varsIn_of _ (h.inr i).expr⟩
 kl:=by have:=h.code;omega
 kids:=fun i=>by
  rcases Nat.lt_or_ge i T.length with hi|hi
  ·have h1:=(h.row i hi).few
   have h2:=h.top i hi
   have h3:=h.few
   omega
  ·rw [getD_ge _ _ _ hi]
   exact Nat.zero_le _
 n2:=h.n2
section
variable {T : List PNode} {K : List (Int × Int)} {B : List (Int × Int × Int)} {n N F : Nat} {s : MS} {t : TS}
theorem start_both {r:Nat} {E:Nat->Nat} (h:TextOk T r n E):Both T (makeF T r).code (makeF T r).br n 0 0 (newF (makeF T r)) (newT n r):=by
 obtain⟨b,hb1,hseg,hb2⟩:=makeF_seg h.wf r h.root h.rk
 have hroom:(makeF T r).room.toNat=n:=by rw [h.room];simp
 have hpr:(newT n r).pr 0=⟨[(r,0)],none,false,0,[],0,false⟩:=rfl
 have hch:∀ c,((newT n r).chn c)=default:=by
  intro c
  show (List.replicate (n:Int).toNat (default:PCh)).getD c default=default
  rcases Nat.lt_or_ge c n with x|x
  ·rw [getD_lt _ _ _ (by simpa using x)];simp
  ·rw [getD_ge _ _ _ (by simpa using x)]
 refine⟨⟨fun _=>.run,?_⟩,?_,?_,fun _=>rfl⟩
 ·refine⟨?_,?_,?_,?_,?_,?_,?_,?_,?_,?_,?_⟩
  ·show (List.replicate (n:Int).toNat (0:Int)).length=n;simp
  ·show (List.replicate (n:Int).toNat (default:PCh)).length=n;simp
  ·intro q hq
   have hq:q<1:=hq
   obtain rfl:q=0:=by omega
   rw [hpr]
   exact⟨rfl,fun _=>rfl,fun kd hkd=>by
    have hkd:kd∈[(r,0)]:=hkd
    rw [List.mem_singleton] at hkd
    subst hkd
    exact⟨h.root,h.rk⟩,fun x=>(by cases x),fun x=>(by cases x)⟩
  ·show [0].Nodup;simp
  ·intro q hq
   have hq:q∈[0]:=hq
   rw [List.mem_singleton] at hq
   subst hq
   exact⟨by show 0<1;decide,rfl⟩
  ·intro x hx;cases hx
  ·show ([]:List Nat).Nodup;simp
  ·intro c q hq;rw [hch] at hq;cases hq
  ·intro c q hq;rw [hch] at hq;cases hq
  ·intro i hi q hq
   have hi:i<1:=hi
   obtain rfl:i=0:=by omega
   rw [hpr] at hq
   cases hq
  ·intro q hq
   have hq:q<1:=hq
   obtain rfl:q=0:=by omega
   rw [hpr]
   rfl
 ·refine⟨?_,?_,rfl,rfl,rfl,rfl,rfl,rfl,rfl,rfl,rfl,rfl,?_,fun _=>rfl,Nat.zero_le _⟩
  ·show List.replicate (makeF T r).room.toNat (0:Int)=List.replicate (n:Int).toNat 0
   rw [hroom];simp
  ·show List.replicate (makeF T r).room.toNat (default:PCh)=List.replicate (n:Int).toNat default
   rw [hroom];simp
  ·intro i hi _
   have hi:i<1:=hi
   obtain rfl:i=0:=by omega
   rw [hpr]
   exact⟨rfl,rfl,rfl,rfl,fun _ _=>⟨⟨0,rfl,.node hseg (.done hb2)⟩,rfl⟩,fun x=>by cases x⟩
 ·refine⟨by show 1≤_;omega,Nat.zero_le _,⟨Int.le_refl _,by show (0:Int)≤_;simp⟩,⟨Int.le_refl _,by show (0:Int)≤_;simp⟩,fun x hx=>(by cases hx),fun c=>(by rw [hch];exact Nat.zero_le _)⟩
theorem Both.out (h:Both T K B n N F s t) (o:List Int) (ho:o.length≤1000 * N):Both T K B n N F { s with out:=o } { t with out:=o }:=by
 obtain⟨⟨st,i⟩,sim,b,f⟩:=h
 exact⟨⟨st,i.setOut o⟩,{ sim with out:=rfl,pr:=fun i hi hn=>(sim.pr i hi hn).weak (fun x=>x) },⟨b.len,ho,b.slept,b.time,b.slp,b.nums⟩,f⟩
theorem send_flt (t:TS) (c v:Int):(t.send T c v).2.faulty=t.faulty:=(Frm.send t c v).flt
theorem unreads_cur:∀ (o:List Nat) (t:TS),(o.foldl (TS.unread T) t).cur=t.cur
 | [],_=>rfl
 | k :: o,t=>by rw [List.foldl_cons,unreads_cur o];rfl
theorem goOn_cur' (t:TS) (q:Nat):(t.goOn q).cur=t.cur:=by
 unfold TS.goOn;dsimp only;split <;> rfl
theorem follow_cur (t:TS) (p k:Nat) (v:Int):(t.follow T p k v).cur=t.cur:=by
 unfold TS.follow;dsimp only;split <;> rfl
theorem send_cur (t:TS) (c v:Int):(t.send T c v).2.cur=t.cur:=by
 unfold TS.send
 split
 ·rfl
 ·unfold TS.tell TS.hasRead
  dsimp only
  split
  ·rw [goOn_cur']
   split
   ·rw [follow_cur,unreads_cur]
   ·rw [unreads_cur]
  ·exact goOn_cur' t _
theorem Both.feed (ok:TmOk T K n) (h:Both T K B n N F s t) (v:Int):Both T K B n N (F+1) (s.send 1 v).2 (t.feed T v):=by
 obtain⟨⟨st,i⟩,sim,b,f⟩:=h
 have rd:=i.rdOk (fun k=>(ok.inr.cd k).1) 1 (by decide)
 obtain⟨st',i',_,_⟩:=i.send ok.wf ok.cd 1 v
 have s2:=(sim.send 1 v (fun q hq=>by
  obtain⟨h1,h2,_,h4⟩:=rd q hq
  exact⟨fun x=>x,h1,h2,h4⟩)).2
 refine⟨⟨st',i'⟩,s2,?_,?_⟩
 ·have fr:=Frm.send (T:=T) t 1 v
  have hs:(t.send T 1 v).2.procs.length≤t.procs.length∧(t.send T 1 v).2.out.length≤t.out.length∧(t.send T 1 v).2.slept=t.slept∧(∀ x∈(t.send T 1 v).2.asleep,x∈t.asleep):=by
   unfold TS.send
   split
   ·exact⟨Nat.le_refl _,Nat.le_refl _,rfl,fun _ h=>h⟩
   ·rename_i q _
    have fr:=Frm.tell (T:=T) t q 1 v
    have hsl:(t.tell T q 1 v).slept=t.slept:=by have:=fr.slept;omega
    refine⟨fr.len,fr.out,hsl,fun x hx=>?_⟩
    rcases fr.slp x hx with y|y
    ·exact y
    ·exact absurd y.1 (by omega)
  refine⟨by have:=b.len;have:=hs.1;show (t.send T 1 v).2.procs.length≤_;omega,by have:=b.out;have:=hs.2.1;show (t.send T 1 v).2.out.length≤_;omega,by show 0≤(t.send T 1 v).2.slept∧(t.send T 1 v).2.slept≤_;rw [hs.2.2.1];exact b.slept,by show 0≤(t.send T 1 v).2.time∧(t.send T 1 v).2.time≤_;rw [fr.time];exact b.time,fun x hx=>b.slp x (hs.2.2.2 x hx),fun c=>by have:=b.nums c;have:=fr.nums c;show ((t.send T 1 v).2.chn c).nums.length≤_;omega⟩
 ·intro hc
  have hc:(t.send T 1 v).2.cur≠none:=hc
  rw [send_cur] at hc
  show (t.send T 1 v).2.faulty=false
  rw [send_flt]
  exact f hc
end
end Go.Proofs.YtnhidaamfnjdjaaGreatDoor
namespace Go.Proofs.YtnhidaamfnjdjaaGreatDoor
open Go.RowKit Go.Maps
structure PM (t t':TS):Prop where
 len:t.procs.length≤t'.procs.length
 old:∀ i,i<t.procs.length->(∃ a,(t'.pr i).pile=a++(t.pr i).pile)∧(t'.pr i).above=(t.pr i).above∧(t'.pr i).fin=(t.pr i).fin
 new:∀ i,t.procs.length≤i->i<t'.procs.length->(t'.pr i).above≠none∧(t'.pr i).fin=false
 ended:t'.ended=t.ended
section
variable {T : List PNode} {t t' t'' : TS} {p q : Nat}
theorem PM.refl (t:TS):PM t t:=⟨Nat.le_refl _,fun _ _=>⟨⟨[],rfl⟩,rfl,rfl⟩,fun i h1 h2=>by omega,rfl⟩
theorem PM.trans (h:PM t t') (k:PM t' t''):PM t t'' where
 len:=Nat.le_trans h.len k.len
 old:=fun i hi=>by
  obtain⟨⟨a,h1⟩,h2,h3⟩:=h.old i hi
  obtain⟨⟨b,k1⟩,k2,k3⟩:=k.old i (Nat.lt_of_lt_of_le hi h.len)
  exact⟨⟨b++a,by rw [k1,h1,List.append_assoc]⟩,k2.trans h2,k3.trans h3⟩
 new:=fun i h1 h2=>by
  rcases Nat.lt_or_ge i t'.procs.length with x|x
  ·obtain⟨a,b⟩:=h.new i h1 x
   obtain⟨_,k2,k3⟩:=k.old i x
   exact⟨by rw [k2];exact a,by rw [k3];exact b⟩
  ·exact k.new i x h2
 ended:=k.ended.trans h.ended
theorem PM.same (h:t'.procs=t.procs) (he:t'.ended=t.ended):PM t t':=by
 have e:∀ i,t'.pr i=t.pr i:=fun i=>TS.pr_procs h i
 exact⟨by rw [h];exact Nat.le_refl _,fun i _=>by rw [e i];exact⟨⟨[],rfl⟩,rfl,rfl⟩,fun i h1 h2=>by rw [h] at h2;omega,he⟩
theorem PM.setPr (t:TS) (p:Nat) (y:TP) (hp:∃ a,y.pile=a++(t.pr p).pile) (ha:y.above=(t.pr p).above) (hf:y.fin=(t.pr p).fin):PM t (t.setPr p y) where
 len:=by rw [TS.len_set];exact Nat.le_refl _
 old:=fun i hi=>by
  by_cases e:i=p
  ·subst e;rw [TS.pr_self hi];exact⟨hp,ha,hf⟩
  ·rw [TS.pr_ne t e];exact⟨⟨[],rfl⟩,rfl,rfl⟩
 new:=fun i h1 h2=>by rw [TS.len_set] at h2;omega
 ended:=rfl
theorem PM.goOn (t:TS) (q:Nat):PM t (t.goOn q):=by
 have h:=PM.setPr t q { t.pr q with told:=0 } ⟨[],rfl⟩ rfl rfl
 unfold TS.goOn
 dsimp only
 split
 ·exact h.trans (PM.same rfl rfl)
 ·exact h.trans (PM.same rfl rfl)
theorem PM.wait (t:TS) (p how:Nat):PM t (t.wait p how):=(PM.setPr t p { t.pr p with told:=how } ⟨[],rfl⟩ rfl rfl).trans (PM.same rfl rfl)
theorem PM.push (t:TS) (p:Nat) (x:Nat×Nat):PM t (t.push p x):=PM.setPr t p _ ⟨[x],rfl⟩ rfl rfl
theorem PM.setCh (t:TS) (c:Int) (x:PCh):PM t (t.setCh c x):=PM.same rfl rfl
theorem PM.leave (t:TS):PM t t.leave:=PM.same rfl rfl
theorem PM.fault (t:TS):PM t t.fault:=PM.same rfl rfl
theorem PM.unreads:∀ (o:List Nat) (t:TS),PM t (o.foldl (TS.unread T) t)
 | [],t=>PM.refl t
 | _ :: o,t=>(PM.setCh t _ _).trans (PM.unreads o _)
theorem PM.follow (t:TS) (p k:Nat) (v:Int):PM t (t.follow T p k v):=by
 unfold TS.follow
 dsimp only
 have h0:PM t { t with vars:=t.vars.set (T.getD k default).nd.toNat v }:=PM.same rfl rfl
 have h:=h0.trans (PM.setPr _ p { t.pr p with opn:=[] } ⟨[],rfl⟩ rfl rfl)
 split
 ·exact h.trans (PM.push _ _ _)
 ·exact h
theorem PM.hasRead (t:TS) (p:Nat) (c v:Int):PM t (t.hasRead T p c v):=by
 unfold TS.hasRead
 dsimp only
 have h:=PM.unreads (T:=T) (t.pr p).opn t
 split
 ·exact (h.trans (PM.follow _ _ _ _)).trans (PM.goOn _ _)
 ·exact h.trans (PM.goOn _ _)
theorem PM.tell (t:TS) (p:Nat) (c v:Int):PM t (t.tell T p c v):=by
 unfold TS.tell
 split
 ·exact PM.hasRead t p c v
 ·exact PM.goOn t p
theorem PM.send (t:TS) (c v:Int):PM t (t.send T c v).2:=by
 unfold TS.send
 split
 ·exact PM.setCh t c _
 ·exact PM.tell t _ c v
theorem PM.receive (t:TS) (c:Int):PM t (t.receive T c).2:=by
 unfold TS.receive
 dsimp only
 have h:=PM.setCh t c { t.ch c with nums:=(t.ch c).nums.tail }
 split
 ·exact h
 ·exact (h.trans (PM.setCh _ c _)).trans (PM.tell _ _ _ _)
theorem PM.reads (t:TS) (p:Nat) (l:List Nat):PM t (t.reads T p l):=by
 unfold TS.reads
 split
 ·exact (PM.receive t _).trans (PM.follow _ _ _ _)
 ·dsimp only
  have h0:PM t (rdsF T p l t):=by
   obtain⟨e1,_,_⟩:=rdsF_is (T:=T) (p:=p) l t
   rw [e1]
   exact PM.same rfl rfl
  have h0:PM t (l.foldl (fun (t:TS) (k:Nat)=>t.setCh (T.getD k default).cd { t.ch (T.getD k default).cd with rd:=some p }) t):=h0
  refine PM.trans ?_ (PM.wait _ _ _)
  refine h0.trans ?_
  exact PM.setPr _ p { TS.pr _ p with opn:=l } ⟨[],rfl⟩ rfl rfl
theorem PM.beginNew (t:TS) {p:Nat} (hp:p<t.procs.length) (k:Nat) (u:Bool):PM t (t.beginNew p k u) where
 len:=by rw [TS.beginNew_is];simp
 old:=fun i hi=>by
  by_cases e:i=p
  ·subst e
   rw [TS.beginNew_pr t hp]
   exact⟨⟨[],rfl⟩,rfl,rfl⟩
  ·rw [TS.beginNew_get t k u (by omega) e,if_neg (by omega)]
   exact⟨⟨[],rfl⟩,rfl,rfl⟩
 new:=fun i h1 h2=>by
  have hl:(t.beginNew p k u).procs.length=t.procs.length+1:=by rw [TS.beginNew_is];simp
  have e:i=t.procs.length:=by omega
  rw [TS.beginNew_get t k u (by omega) (by omega),if_pos e]
  exact⟨by simp,rfl⟩
 ended:=by rw [TS.beginNew_is]
theorem PM.begN (pri:Bool) (ks:List Nat) (t:TS) (hp:p<t.procs.length):∀ m,PM t (begN pri p ks t m)
 | 0=>PM.refl t
 | m+1=>by
  rw [begN_succ]
  exact (PM.begN pri ks t hp m).trans (PM.beginNew _ (begN_len pri ks m hp) _ _)
theorem begN_new (pri:Bool) (ks:List Nat) (t:TS) (hp:p<t.procs.length) (j:Nat) (hj:j<ks.length):((begN pri p ks t ks.length).pr (t.procs.length+j)).pile=[(ks.getD j 0,0)]∧((begN pri p ks t ks.length).pr (t.procs.length+j)).above=some p∧t.procs.length+j<(begN pri p ks t ks.length).procs.length:=by
 have hlen:∀ m,(begN pri p ks t m).procs.length=t.procs.length+m:=by
  intro m
  induction m with
  | zero=>rfl
  | succ m ih=>rw [begN_succ,TS.beginNew_is];simp;omega
 have key:∀ m,j<m->((begN pri p ks t m).pr (t.procs.length+j)).pile=[(ks.getD j 0,0)]∧((begN pri p ks t m).pr (t.procs.length+j)).above=some p:=by
  intro m
  induction m with
  | zero=>intro h;omega
  | succ m ih =>
   intro h
   rw [begN_succ]
   have hl:=hlen m
   rw [TS.beginNew_get _ _ _ (by omega) (by omega)]
   by_cases e:j=m
   ·rw [if_pos (by omega),e];exact⟨rfl,rfl⟩
   ·rw [if_neg (by omega)];exact ih (by omega)
 exact⟨(key _ hj).1,(key _ hj).2,by rw [hlen];omega⟩
theorem PM.stepN (t:TS) (p i:Nat) (hp:p<t.procs.length):PM (t.pop p) (t.stepN T p i):=by
 have hpp:p<(t.pop p).procs.length:=by show p<(t.setPr p _).procs.length;rw [TS.len_set];exact hp
 unfold TS.stepN
 dsimp only
 generalize t.pop p=U at *
 split
 ·exact PM.refl U
 split
 ·exact PM.leave U
 split
 ·split
  ·exact PM.fault U
  ·exact PM.same rfl rfl
 split
 ·split
  ·exact PM.fault U
  ·rename_i v _
   split
   ·exact PM.same rfl rfl
   ·have hs:=PM.send (T:=T) U (T.getD i default).cd v
    split
    ·rename_i t1 he
     rw [he] at hs
     exact hs
    ·rename_i t1 he
     rw [he] at hs
     exact (hs.trans (PM.setCh t1 _ _)).trans (PM.wait _ _ _)
 split
 ·split
  ·exact PM.fault U
  ·exact PM.reads U p _
 split
 ·split
  ·exact PM.fault U
  ·split
   ·exact PM.fault U
   ·split
    ·refine PM.trans ?_ (PM.wait _ _ _)
     exact PM.same rfl rfl
    ·exact PM.refl U
 split
 ·have hb:=PM.begN (decide ((T.getD i default).kind=9)) (T.getD i default).kids U hpp (T.getD i default).kids.length
  rw [beginsT_is]
  split
  ·exact hb.trans (PM.wait _ _ _)
  ·exact hb
 split
 ·split
  ·exact PM.fault U
  ·split
   ·exact PM.refl U
   ·exact (PM.push U _ _).trans (PM.push _ _ _)
 split
 ·split
  ·exact PM.fault U
  ·exact PM.leave U
  ·exact PM.push U _ _
 ·split
  ·exact PM.fault U
  ·exact PM.reads U p _
theorem PM.free1 {t1:TS} (hf:t.free1 T p=some t1):PM (t.pop p) t1:=by
 unfold TS.free1 at hf
 split at hf
 ·cases hf
 ·dsimp only at hf
  split at hf
  ·injection hf with hf
   rw [<-hf]
   split
   ·exact (PM.push _ _ _).trans (PM.push _ _ _)
   ·exact PM.refl _
  ·split at hf
   ·injection hf with hf
    rw [<-hf]
    refine PM.trans ?_ (PM.push _ _ _)
    exact PM.same rfl rfl
   ·split at hf
    ·injection hf with hf
     rw [<-hf]
     exact PM.push _ _ _
    ·cases hf
theorem PM.wakeAll:∀ (f:Nat) (t:TS),PM t (TS.wakeAll T f t)
 | 0,t=>PM.refl t
 | f+1,t=>by
  unfold TS.wakeAll
  split
  ·exact PM.refl t
  ·split
   ·refine PM.trans ?_ (PM.wakeAll f _)
    refine PM.trans ?_ (PM.tell _ _ _ _)
    exact PM.same rfl rfl
   ·exact PM.refl t
theorem PM.make (t:TS):PM t (t.makeCurrent T):=by
 unfold TS.makeCurrent
 split
 ·exact PM.refl t
 ·dsimp only
  have h:PM t (if t.urg=[]∧t.oth=[] then t.wakeNext T else t):=by
   split
   ·unfold TS.wakeNext
    split
    ·exact PM.refl t
    ·refine PM.trans ?_ (PM.wakeAll _ _)
     exact PM.same rfl rfl
   ·exact PM.refl t
  split
  ·exact h.trans (PM.same rfl rfl)
  ·split
   ·exact h.trans (PM.same rfl rfl)
   ·exact h.trans (PM.same rfl rfl)
end
end Go.Proofs.YtnhidaamfnjdjaaGreatDoor
namespace Go.Proofs.YtnhidaamfnjdjaaGreatDoor
open Go.RowKit Go.Maps
def noDiv:PE->Bool
 | .nil=>true
 | .num _=>true
 | .var _ _=>true
 | .pair op l r=>decide (opK op≠6)&&decide (opK op≠7)&&noDiv l&&noDiv r
theorem evalE_some (vars:List Int):∀ e:PE,fullE e=true->noDiv e=true->∃ v,evalE vars e=some v
 | .nil,h,_=>by cases h
 | .num v,_,_=>⟨v,rfl⟩
 | .var _ d,_,_=>⟨_,rfl⟩
 | .pair op l r,h,k=>by
  have h:fullE l=true∧fullE r=true:=by simpa [fullE] using h
  unfold noDiv at k
  rw [Bool.and_eq_true,Bool.and_eq_true,Bool.and_eq_true,decide_eq_true_eq,decide_eq_true_eq] at k
  obtain⟨u,hu⟩:=evalE_some vars l h.1 k.1.2
  obtain⟨v,hv⟩:=evalE_some vars r h.2 k.2
  have e:evalE vars (.pair op l r)=opE op u v:=by
   show (match evalE vars l with|none=>none|some a=>match evalE vars r with|none=>none|some b=>opE op a b)=_
   rw [hu,hv]
  rw [e]
  unfold opE
  dsimp only
  rw [if_neg k.1.1.1,if_neg k.1.1.2]
  repeat (first|exact⟨_,rfl⟩|split)
theorem guardE_some (vars:List Int) (e:PE) (h:e=.nil∨fullE e=true) (k:noDiv e=true):∃ v,guardE vars e=some v:=by
 rcases h with rfl|h
 ·exact⟨1,rfl⟩
 ·by_cases hn:e=.nil
  ·rw [hn];exact⟨1,rfl⟩
  ·rw [guard_ex vars e hn];exact evalE_some vars e h k
structure CalmT (T:List PNode):Prop where
 div:∀ i,noDiv (T.getD i default).expr=true
 wait:∀ i,(T.getD i default).kind=6->∃ v,(T.getD i default).expr=.num v∧v≤1000000
section
variable {T : List PNode} {n : Nat} {st : Nat → St} {t t' : TS} {p : Nat} {steps : Int}
theorem opens_some (cm:CalmT T) (vars:List Int):∀ l:List Nat,(∀ k∈l,(T.getD k default).expr=.nil∨fullE (T.getD k default).expr=true)->∃ o,TS.opens T vars l=some o
 | [],_=>⟨[],rfl⟩
 | k :: l,h=>by
  obtain⟨v,hv⟩:=guardE_some vars (T.getD k default).expr (h k (by simp)) (cm.div k)
  obtain⟨o,ho⟩:=opens_some cm vars l (fun k hk=>h k (by simp [hk]))
  show ∃ o,(match guardE vars (T.getD k default).expr with|none=>none|some v=>match TS.opens T vars l with|none=>none|some o=>some (if v=0 then o else k :: o))=some o
  rw [hv,ho]
  exact⟨_,rfl⟩
theorem firstW_some (cm:CalmT T) (vars:List Int):∀ l:List Nat,(∀ k∈l,fullE (T.getD k default).expr=true)->∃ o,TS.firstW T vars l=some o
 | [],_=>⟨none,rfl⟩
 | k :: l,h=>by
  obtain⟨v,hv⟩:=evalE_some vars (T.getD k default).expr (h k (by simp)) (cm.div k)
  obtain⟨o,ho⟩:=firstW_some cm vars l (fun k hk=>h k (by simp [hk]))
  show ∃ o,(match evalE vars (T.getD k default).expr with|none=>none|some v=>if v=0 then TS.firstW T vars l else some (some k))=some o
  rw [hv]
  dsimp only
  split
  ·exact⟨o,ho⟩
  ·exact⟨_,rfl⟩
theorem step_calm (wf:WfT T) (cm:CalmT T) (t:TS) (p i:Nat) (hi:i<T.length) (hpk:procK (T.getD i default).kind) (hk:(T.getD i default).kind≠7∧(T.getD i default).kind≠15∧(T.getD i default).kind≠16):(t.stepN T p i).faulty=t.faulty:=by
 have hpop:(t.pop p).faulty=t.faulty:=rfl
 have fin:∀ {a:Nat} {t'},Frm a (t.pop p) t'->t'.faulty=t.faulty:=fun h=>h.flt.trans hpop
 have line:=wf.line i hi
 obtain⟨k1,k2,k3,k4⟩:=hpk
 have ev:fullE (T.getD i default).expr=true->∀ vars,evalE vars (T.getD i default).expr≠none:=fun h vars e=>by
  obtain⟨v,hv⟩:=evalE_some vars _ h (cm.div i)
  rw [hv] at e;cases e
 unfold TS.stepN
 dsimp only
 generalize t.pop p=U at *
 split
 ·exact fin (Frm.refl U)
 rename_i n1
 split
 ·exact fin (Frm.leave U)
 rename_i n2
 split
 ·rename_i h3
  split
  ·rename_i e
   exact absurd e (ev (line.1 (.inl h3)) _)
  ·exact fin (Frm.setVars U _)
 rename_i n3
 split
 ·rename_i h4
  split
  ·rename_i e
   exact absurd e (ev (line.1 (.inr (.inl h4))) _)
  ·rename_i v _
   split
   ·exact hpop
   ·have hs:=Frm.send (T:=T) U (T.getD i default).cd v
    split
    ·rename_i t1 he
     rw [he] at hs
     exact fin hs
    ·rename_i t1 he
     rw [he] at hs
     exact fin ((hs.trans (Frm.setCh t1 _ _ 0 (by exact Nat.le_refl _))).trans (Frm.wait _ _ _))
 rename_i n4
 split
 ·rename_i h5
  split
  ·rename_i e
   obtain⟨o,ho⟩:=opens_some cm U.vars [i] (fun k hk=>by rw [List.mem_singleton] at hk;subst hk;exact line.2 h5)
   rw [ho] at e;cases e
  ·exact fin (Frm.reads U p _)
 rename_i n5
 split
 ·rename_i h6
  split
  ·rename_i e
   exact absurd e (ev (line.1 (.inr (.inr h6))) _)
  ·rename_i v hv
   obtain⟨u,hu,hle⟩:=cm.wait i h6
   rw [hu] at hv
   have hv:some u=some v:=hv
   injection hv with hv
   split
   ·rename_i hgt;omega
   ·split
    ·exact hpop
    ·exact hpop
 rename_i n6
 split
 ·have hb:=Frm.begN (decide ((T.getD i default).kind=9)) p (T.getD i default).kids U (T.getD i default).kids.length
  rw [beginsT_is]
  split
  ·exact fin (hb.trans (Frm.wait _ _ _))
  ·exact fin hb
 rename_i n8
 split
 ·rename_i h10
  split
  ·rename_i e
   exact absurd e (ev (wf.asks i hi h10) _)
  ·split
   ·exact hpop
   ·exact fin ((Frm.push U _ _).trans (Frm.push _ _ _))
 rename_i n10
 split
 ·rename_i h11
  split
  ·rename_i e
   obtain⟨o,ho⟩:=firstW_some cm U.vars (T.getD i default).kids (fun k hk=>(wf.whens i hi h11 k hk).2)
   rw [ho] at e;cases e
  ·exact hpop
  ·exact fin (Frm.push U _ _)
 ·rename_i n11
  have h13:(T.getD i default).kind=13:=by omega
  split
  ·rename_i e
   obtain⟨o,ho⟩:=opens_some cm U.vars (T.getD i default).kids (fun k hk=>(wf.ons i hi h13 k hk).2)
   rw [ho] at e;cases e
  ·exact fin (Frm.reads U p _)
structure LoopT (T:List PNode) (r r1 r2 k w:Nat):Prop where
 c0:(T.getD r default).kind=16∧(T.getD r default).kids=[r1]
 c1:(T.getD r1 default).kind=16∧(T.getD r1 default).kids=[r2]
 c2:(T.getD r2 default).kind=8
 mem:k∈(T.getD r2 default).kids
 ck:(T.getD k default).kind=15∧(T.getD k default).kids=[w]
 cw:(T.getD w default).kind=10∧(T.getD w default).expr=.num 1
theorem free_15 (t:TS) {p x:Nat} {e:Nat} {l:List (Nat×Nat)} (hp:p<t.procs.length) (hpile:(t.pr p).pile=(x,e) :: l) (h15:(T.getD x default).kind=15):t.free1 T p=some { t.todo p (((T.getD x default).kids.getD 0 0,0) :: l) with vars:=t.vars.set (T.getD x default).nd.toNat 0 }:=by
 unfold TS.free1
 rw [hpile]
 dsimp only
 rw [if_neg (by rw [h15];decide),if_pos h15]
 have:({ t with vars:=t.vars.set (T.getD x default).nd.toNat 0 }:TS).pop p=({ t with vars:=t.vars.set (T.getD x default).nd.toNat 0 }:TS).todo p l:=by
  unfold TS.pop TS.todo
  show TS.setPr _ p { t.pr p with pile:=(t.pr p).pile.tail }=TS.setPr _ p { t.pr p with pile:=l }
  rw [hpile]
  rfl
 rw [this,TS.todo_down (T:=T) ({ t with vars:=t.vars.set (T.getD x default).nd.toNat 0 }:TS) hp]
 rfl
theorem todo_abv (t:TS) (p:Nat) (l:List (Nat×Nat)) (ha:∀ i,i<t.procs.length->(t.pr i).above=none->i=0):∀ i,i<(t.todo p l).procs.length->((t.todo p l).pr i).above=none->i=0:=by
 intro i hi hn
 rw [TS.todo_len] at hi
 by_cases e:i=p
 ·subst e
  rw [TS.todo_self t hi] at hn
  exact ha i hi hn
 ·rw [TS.todo_ne t e] at hn
  exact ha i hi hn
structure LoopP (r r1 r2 k w:Nat) (t:TS):Prop where
 flt:t.faulty=false
 ended:t.ended=false
 abv:∀ i,i<t.procs.length->(t.pr i).above=none->i=0
 ph:(t.procs.length=1∧t.cur=some 0∧∃ x,(t.pr 0).pile=[(x,0)]∧(x=r∨x=r1∨x=r2))∨(∃ i,0<i∧i<t.procs.length∧(t.pr i).above=some 0∧(t.pr i).fin=false∧∃ l x,(t.pr i).pile=l++[(x,0)]∧(x=k∨x=w))
variable {r r1 r2 k w : Nat}
theorem LoopP.more {U:TS} {i:Nat} (pm:PM U t') (hf:t'.faulty=false) (he:U.ended=false) (ha:∀ i,i<U.procs.length->(U.pr i).above=none->i=0) (h0:0<i) (hi:i<U.procs.length) (hab:(U.pr i).above=some 0) (hfin:(U.pr i).fin=false) (hl:∃ l x,(U.pr i).pile=l++[(x,0)]∧(x=k∨x=w)):LoopP r r1 r2 k w t':=by
 refine⟨hf,pm.ended.trans he,fun j hj hn=>?_,.inr ⟨i,h0,Nat.lt_of_lt_of_le hi pm.len,?_⟩⟩
 ·rcases Nat.lt_or_ge j U.procs.length with x|x
  ·obtain⟨_,e,_⟩:=pm.old j x
   rw [e] at hn
   exact ha j x hn
  ·exact absurd hn (pm.new j x hj).1
 ·obtain⟨⟨a,e1⟩,e2,e3⟩:=pm.old i hi
  obtain⟨l,x,e4,hx⟩:=hl
  exact⟨e2.trans hab,e3.trans hfin,a++l,x,by rw [e1,e4,List.append_assoc],hx⟩
theorem pop_pr_ne (t:TS) {p i:Nat} (h:i≠p):(t.pop p).pr i=t.pr i:=TS.pr_ne t h _
theorem pop_pr (t:TS) {p:Nat} (h:p<t.procs.length):(t.pop p).pr p={ t.pr p with pile:=(t.pr p).pile.tail }:=TS.pr_self h _
theorem pop_len (t:TS) (p:Nat):(t.pop p).procs.length=t.procs.length:=TS.len_set t p _
theorem pop_abv (t:TS) (p:Nat) (ha:∀ i,i<t.procs.length->(t.pr i).above=none->i=0):∀ i,i<(t.pop p).procs.length->((t.pop p).pr i).above=none->i=0:=by
 intro i hi hn
 rw [pop_len] at hi
 by_cases e:i=p
 ·subst e
  rw [pop_pr t hi] at hn
  exact ha i hi hn
 ·rw [pop_pr_ne t e] at hn
  exact ha i hi hn
theorem loop_kept (wf:WfT T) (cm:CalmT T) (lt:LoopT T r r1 r2 k w):TKept T n steps (LoopP r r1 r2 k w):=by
 intro d t st inv lp
 obtain⟨hf,he,ha,hph⟩:=lp
 unfold TS.turn
 cases hc:t.cur with
 | none =>
  dsimp only
  rcases hph with ⟨_,hc0,_⟩|⟨i,h0,hi,hab,hfin,hl⟩
  ·rw [hc] at hc0;cases hc0
  ·by_cases hd:d<steps
   ·rw [if_pos hd]
    have pm:=PM.make (T:=T) t
    have hf2:(t.makeCurrent T).faulty=false:=by
     have:(t.makeCurrent T).faulty=t.faulty:=by
      unfold TS.makeCurrent
      split
      ·rfl
      ·dsimp only
       have e:(if t.urg=[]∧t.oth=[] then t.wakeNext T else t).faulty=t.faulty:=by
        split
        ·unfold TS.wakeNext
         split
         ·rfl
         ·rename_i x rr _
          have gen:∀ (f:Nat) (u:TS),(TS.wakeAll T f u).faulty=u.faulty:=by
           intro f
           induction f with
           | zero=>intro u;rfl
           | succ f ih =>
            intro u
            unfold TS.wakeAll
            split
            ·rfl
            ·split
             ·rw [ih];exact (Frm.tell _ _ _ _).flt
             ·rfl
          exact gen _ _
        ·rfl
       split
       ·exact e
       ·split
        ·exact e
        ·exact e
     rw [this];exact hf
    have q:=LoopP.more (r:=r) (r1:=r1) (r2:=r2) pm hf2 he ha h0 hi hab hfin hl
    cases (t.makeCurrent T).cur with
    | none=>exact q
    | some q'=>exact q
   ·rw [if_neg hd]
    exact⟨hf,he,ha,.inr ⟨i,h0,hi,hab,hfin,hl⟩⟩
 | some p =>
  dsimp only
  obtain⟨hp,hr,_,_⟩:=inv.curq hc
  have pk:=inv.prs p hp
  cases hfr:t.free1 T p with
  | some t1 =>
   dsimp only
   have pm:=PM.free1 hfr
   have hf1:t1.faulty=false:=(Frm.free1 hfr).flt.trans hf
   rcases hph with ⟨hl1,hc0,x,hpile,hx⟩|⟨i,h0,hi,hab,hfin,hl⟩
   ·rw [hc] at hc0
    injection hc0 with hc0
    subst hc0
    have epop:t.pop 0=t.todo 0 []:=by unfold TS.pop;rw [hpile];rfl
    unfold TS.free1 at hfr
    rw [hpile] at hfr
    dsimp only at hfr
    have go:∀ y,(T.getD x default).kind=16->(T.getD x default).kids=[y]->(y=r1∨y=r2)->LoopP r r1 r2 k w t1:=by
     intro y k16 kd hy
     rw [if_neg (by rw [k16];decide),if_neg (by rw [k16];decide),if_pos k16] at hfr
     injection hfr with hfr
     rw [epop,TS.todo_down t hp,kd] at hfr
     have e1:t1=t.todo 0 [(y,0)]:=hfr.symm
     subst e1
     refine⟨hf,he,fun i hi hn=>?_,.inl ⟨by rw [TS.todo_len];exact hl1,hc,y,by rw [TS.todo_self t hp],by rcases hy with h|h <;> simp [h]⟩⟩
     rw [TS.todo_len] at hi
     omega
    rcases hx with rfl|rfl|rfl
    ·exact go r1 lt.c0.1 lt.c0.2 (.inl rfl)
    ·exact go r2 lt.c1.1 lt.c1.2 (.inr rfl)
    ·rw [if_neg (by rw [lt.c2];decide),if_neg (by rw [lt.c2];decide),if_neg (by rw [lt.c2];decide)] at hfr
     cases hfr
   ·by_cases e:i=p
    ·subst e
     obtain⟨l,x,e4,hx⟩:=hl
     cases l with
     | cons y l' =>
      refine LoopP.more pm hf1 he (pop_abv t i ha) h0 (by rw [pop_len];exact hi) (by rw [pop_pr t hi];exact hab) (by rw [pop_pr t hi];exact hfin) ⟨l',x,?_,hx⟩
      rw [pop_pr t hi,e4]
      rfl
     | nil =>
      have e4:(t.pr i).pile=[(x,0)]:=e4
      have epop:t.pop i=t.todo i []:=by unfold TS.pop;rw [e4];rfl
      rcases hx with rfl|rfl
      ·rw [free_15 t hi e4 lt.ck.1,lt.ck.2] at hfr
       injection hfr with hfr
       have e5:(t.todo i [(w,0)]).pr i={ t.pr i with pile:=[(w,0)] }:=TS.todo_self t hi _
       refine LoopP.more (U:=t.todo i [(w,0)]) (by rw [<-hfr];exact PM.same rfl rfl) hf1 he (todo_abv t i _ ha) h0 (by rw [TS.todo_len];exact hi) (by rw [e5];exact hab) (by rw [e5];exact hfin) ⟨[],w,by rw [e5];rfl,.inr rfl⟩
      ·unfold TS.free1 at hfr
       rw [e4] at hfr
       dsimp only at hfr
       rw [if_neg (by rw [lt.cw.1];decide),if_neg (by rw [lt.cw.1];decide),if_neg (by rw [lt.cw.1];decide)] at hfr
       cases hfr
    ·exact LoopP.more pm hf1 he (pop_abv t p ha) h0 (by rw [pop_len];exact hi) (by rw [pop_pr_ne t e];exact hab) (by rw [pop_pr_ne t e];exact hfin) (by rw [pop_pr_ne t e];exact hl)
  | none =>
   dsimp only
   cases hpile:(t.pr p).pile with
   | nil =>
    dsimp only
    rcases hph with ⟨hl1,hc0,x,hp0,hx⟩|⟨i,h0,hi,hab,hfin,l,x,e4,hx⟩
    ·rw [hc] at hc0
     injection hc0 with hc0
     subst hc0
     rw [hpile] at hp0
     cases hp0
    ·have hip:i≠p:=by
      rintro rfl
      rw [hpile] at e4
      cases l <;> cases e4
     have hj:=(kid_pos inv hi hfin hab).2.2
     have hp0:p≠0:=by
      rintro rfl
      rw [hr] at hj
      cases hj
     cases hu:(t.pr p).above with
     | none=>exact absurd (ha p hp hu) hp0
     | some q =>
      obtain⟨_,hqp,hq,_,_⟩:=inv.finish2 hc hu
      rw [TS.endP_some (T:=T) t hp hu hqp hq]
      have hq1:q<(t.setPr p { t.pr p with fin:=true }).leave.procs.length:=by show q<(t.setPr p _).procs.length;rw [TS.len_set];exact hq
      have en:(t.setPr p { t.pr p with fin:=true }).leave.pr q=t.pr q:=TS.pr_ne t hqp _
      have p1:PM (t.setPr p { t.pr p with fin:=true }).leave ((t.setPr p { t.pr p with fin:=true }).leave.setPr q { t.pr q with below:=(t.pr q).below - 1 }):=PM.setPr _ q _ ⟨[],by rw [en];rfl⟩ (by rw [en]) (by rw [en])
      have ei:(t.setPr p { t.pr p with fin:=true }).leave.pr i=t.pr i:=TS.pr_ne t hip _
      have la:∀ j,j<(t.setPr p { t.pr p with fin:=true }).leave.procs.length->((t.setPr p { t.pr p with fin:=true }).leave.pr j).above=none->j=0:=by
       intro j hj hn
       have hj2:j<t.procs.length:=by rw [<-TS.len_set t p { t.pr p with fin:=true }];exact hj
       by_cases e:j=p
       ·have es:(t.setPr p { t.pr p with fin:=true }).leave.pr p={ t.pr p with fin:=true }:=TS.pr_self hp _
        rw [e,es] at hn
        rw [e]
        exact ha p hp hn
       ·have es:(t.setPr p { t.pr p with fin:=true }).leave.pr j=t.pr j:=TS.pr_ne t e _
        rw [es] at hn
        exact ha j hj2 hn
      have hil:i<(t.setPr p { t.pr p with fin:=true }).leave.procs.length:=by show i<(t.setPr p _).procs.length;rw [TS.len_set];exact hi
      split
      ·refine LoopP.more (p1.trans (PM.tell _ _ _ _)) ?_ he la h0 hil (by rw [ei];exact hab) (by rw [ei];exact hfin) ⟨l,x,by rw [ei];exact e4,hx⟩
       rw [(Frm.tell _ _ _ _).flt]
       exact hf
      ·exact LoopP.more p1 hf he la h0 hil (by rw [ei];exact hab) (by rw [ei];exact hfin) ⟨l,x,by rw [ei];exact e4,hx⟩
   | cons y l0 =>
    obtain⟨i0,e0⟩:=y
    dsimp only
    by_cases hd:steps≤d
    ·rw [if_pos hd]
     exact⟨hf,he,ha,hph⟩
    ·rw [if_neg hd]
     have hk:(T.getD i0 default).kind≠7∧(T.getD i0 default).kind≠15∧(T.getD i0 default).kind≠16:=by
      unfold TS.free1 at hfr
      rw [hpile] at hfr
      dsimp only at hfr
      by_cases k7:(T.getD i0 default).kind=7
      ·rw [if_pos k7] at hfr;cases hfr
      ·rw [if_neg k7] at hfr
       by_cases k15:(T.getD i0 default).kind=15
       ·rw [if_pos k15] at hfr;cases hfr
       ·rw [if_neg k15] at hfr
        by_cases k16:(T.getD i0 default).kind=16
        ·rw [if_pos k16] at hfr;cases hfr
        ·exact⟨k7,k15,k16⟩
     have pi:i0<T.length∧procK (T.getD i0 default).kind:=pk.pile (i0,e0) (by rw [hpile];simp)
     have hf1:(t.stepN T p i0).faulty=false:=(step_calm wf cm t p i0 pi.1 pi.2 hk).trans hf
     have pm:=PM.stepN (T:=T) t p i0 hp
     rcases hph with ⟨hl1,hc0,x,hp0,hx⟩|⟨i,h0,hi,hab,hfin,l,x,e4,hx⟩
     ·rw [hc] at hc0
      injection hc0 with hc0
      subst hc0
      rw [hpile] at hp0
      injection hp0 with hp0 hp1
      injection hp0 with hp0 hp2
      subst hp0
      have hx2:i0=r2:=by
       rcases hx with h|h|h
       ·rw [h] at hk;exact absurd lt.c0.1 hk.2.2
       ·rw [h] at hk;exact absurd lt.c1.1 hk.2.2
       ·exact h
      subst hx2
      obtain⟨j,hj,ej⟩:=List.getElem_of_mem lt.mem
      have hpp:0<(t.pop 0).procs.length:=by rw [pop_len];exact hp
      obtain⟨b1,b2,b3⟩:=begN_new (decide ((T.getD i0 default).kind=9)) (T.getD i0 default).kids (t.pop 0) hpp j hj
      have pmb:=PM.begN (decide ((T.getD i0 default).kind=9)) (T.getD i0 default).kids (t.pop 0) hpp (T.getD i0 default).kids.length
      have ek:(T.getD i0 default).kids.getD j 0=k:=by rw [getD_lt (T.getD i0 default).kids j 0 hj];exact ej
      rw [ek] at b1
      have hfinb:=(pmb.new ((t.pop 0).procs.length+j) (by omega) b3).2
      have eN:∃ U,(t.stepN T 0 i0)=U∧PM (begN (decide ((T.getD i0 default).kind=9)) 0 (T.getD i0 default).kids (t.pop 0) (T.getD i0 default).kids.length) U:=by
       refine⟨_,rfl,?_⟩
       unfold TS.stepN
       dsimp only
       rw [if_neg (by rw [lt.c2];decide),if_neg (by rw [lt.c2];decide),if_neg (by rw [lt.c2];decide),if_neg (by rw [lt.c2];decide),if_neg (by rw [lt.c2];decide),if_neg (by rw [lt.c2];decide),if_pos (.inl lt.c2),beginsT_is]
       split
       ·exact PM.wait _ _ _
       ·exact PM.refl _
      obtain⟨U,eU,pmU⟩:=eN
      rw [eU]
      rw [eU] at hf1
      refine LoopP.more pmU hf1 (pmb.ended.trans he) (fun j' hj' hn=>?_) (i:=(t.pop 0).procs.length+j) (by omega) b3 b2 hfinb ⟨[],k,b1,.inl rfl⟩
      rcases Nat.lt_or_ge j' (t.pop 0).procs.length with z|z
      ·obtain⟨_,e,_⟩:=pmb.old j' z
       rw [e] at hn
       exact pop_abv t 0 ha j' z hn
      ·exact absurd hn (pmb.new j' z hj').1
     ·by_cases e:i=p
      ·subst e
       cases l with
       | cons y l' =>
        refine LoopP.more pm hf1 he (pop_abv t i ha) h0 (by rw [pop_len];exact hi) (by rw [pop_pr t hi];exact hab) (by rw [pop_pr t hi];exact hfin) ⟨l',x,?_,hx⟩
        rw [pop_pr t hi,e4]
        rfl
       | nil =>
        have e4:(t.pr i).pile=[(x,0)]:=e4
        rw [hpile] at e4
        injection e4 with e4 e5
        injection e4 with e4 e6
        subst e4
        subst e5
        have hx2:i0=w:=by
         rcases hx with h|h
         ·rw [h] at hk;exact absurd lt.ck.1 hk.2.1
         ·exact h
        subst hx2
        have epop:t.pop i=t.todo i []:=by unfold TS.pop;rw [hpile];rfl
        have eS:t.stepN T i i0=t.todo i [((T.getD i0 default).kids.getD 0 0,0),(i0,0)]:=by
         unfold TS.stepN
         dsimp only
         rw [if_neg (by rw [lt.cw.1];decide),if_neg (by rw [lt.cw.1];decide),if_neg (by rw [lt.cw.1];decide),if_neg (by rw [lt.cw.1];decide),if_neg (by rw [lt.cw.1];decide),if_neg (by rw [lt.cw.1];decide),if_neg (by rw [lt.cw.1];decide),if_pos lt.cw.1,lt.cw.2,epop]
         show (if (1:Int)=0 then _ else _)=_
         rw [if_neg (by decide),TS.todo_push t hi,TS.todo_down t hi]
        have e7:(t.todo i [((T.getD i0 default).kids.getD 0 0,0),(i0,0)]).pr i={ t.pr i with pile:=[((T.getD i0 default).kids.getD 0 0,0),(i0,0)] }:=TS.todo_self t hi _
        rw [eS]
        exact LoopP.more (PM.refl _) hf he (todo_abv t i _ ha) h0 (by rw [TS.todo_len];exact hi) (by rw [e7];exact hab) (by rw [e7];exact hfin) ⟨[((T.getD i0 default).kids.getD 0 0,0)],i0,by rw [e7];rfl,.inr rfl⟩
      ·exact LoopP.more pm hf1 he (pop_abv t p ha) h0 (by rw [pop_len];exact hi) (by rw [pop_pr_ne t e];exact hab) (by rw [pop_pr_ne t e];exact hfin) (by rw [pop_pr_ne t e];exact⟨l,x,e4,hx⟩)
end
end Go.Proofs.YtnhidaamfnjdjaaGreatDoor
namespace Go.Proofs.YtnhidaamfnjdjaaGreatDoor
open Go.RowKit Go.Maps
section
variable {T : List PNode} {n : Nat} {st : Nat → St} {t : TS} {r r1 r2 k w : Nat}
theorem loop_new (n:Int):LoopP r r1 r2 k w (newT n r):=by
 refine⟨rfl,rfl,fun i hi _=>?_,.inl ⟨rfl,rfl,r,rfl,.inl rfl⟩⟩
 have hi:i<1:=hi
 omega
theorem LoopP.out (h:LoopP r r1 r2 k w t) (o:List Int):LoopP r r1 r2 k w { t with out:=o }:=⟨h.flt,h.ended,h.abv,h.ph⟩
theorem LoopP.feed (inv:TInv T n st t) (h:LoopP r r1 r2 k w t) (v:Int):LoopP r r1 r2 k w (t.feed T v):=by
 have pm:=PM.send (T:=T) t 1 v
 have hf:(t.send T 1 v).2.faulty=false:=(send_flt t 1 v).trans h.flt
 rcases h.ph with ⟨hl,hc,x,hp,hx⟩|⟨i,h0,hi,hab,hfin,hl⟩
 ·obtain⟨_,hr,_,_⟩:=inv.curq hc
  have hrd:(t.ch 1).rd=none:=by
   cases hq:(t.ch 1).rd with
   | none=>rfl
   | some q =>
    obtain⟨q1,q2,_⟩:=inv.rd 1 q hq
    obtain rfl:q=0:=by omega
    rw [hr] at q2
    cases q2
  have e:t.feed T v=t.setCh 1 { t.ch 1 with nums:=(t.ch 1).nums++[v] }:=by
   unfold TS.feed TS.send
   rw [hrd]
  rw [e]
  exact⟨h.flt,h.ended,h.abv,.inl ⟨hl,hc,x,hp,hx⟩⟩
 ·exact LoopP.more pm hf h.ended h.abv h0 hi hab hfin hl
theorem LoopP.stands (h:LoopP r r1 r2 k w t):t.stands=1∨t.stands=3∨t.stands=4:=by
 unfold TS.stands
 rw [if_neg (by rw [h.flt];decide),if_neg (by rw [h.ended];decide)]
 split
 ·exact .inl rfl
 ·split
  ·exact .inr (.inl rfl)
  ·exact .inr (.inr rfl)
theorem stands_both {K:List (Int×Int)} {B:List (Int×Int×Int)} {s:MS} (h:SimM T K B s t):s.stands=t.stands:=by
 unfold MS.stands TS.stands
 rw [h.faulty,h.ended,h.cur,h.urg,h.oth,h.asleep,h.ch]
end
end Go.Proofs.YtnhidaamfnjdjaaGreatDoor
