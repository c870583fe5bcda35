import Derived.Test.YtnhidaamfnjdjaaGreatDoorZPure
namespace Go.Proofs.YtnhidaamfnjdjaaGreatDoor
open Go.RowKit Go.Maps
section
variable {ns : Bool} {K : List (Int × Int)} {B : List (Int × Int × Int)}
theorem runC_mono {steps:Int}:∀ (f:Nat) (d:Int) (s:MS) (r:Int×MS),runC ns K B steps f d s=some r->∀ g,f≤g->runC ns K B steps g d s=some r
 | 0,_,_,_,h,_,_=>by cases h
 | f+1,d,s,r,h,0,hg=>by omega
 | f+1,d,s,r,h,g+1,hg=>by
  unfold runC at h ⊢
  cases ht:turnC ns K B steps d s with
  | none=>rw [ht] at h;cases h
  | some x =>
   rw [ht] at h
   cases x with
   | inl y=>exact runC_mono f _ _ r h g (by omega)
   | inr y=>exact h
theorem runC_det {steps:Int} {f g:Nat} {d:Int} {s:MS} {r q:Int×MS} (h:runC ns K B steps f d s=some r) (k:runC ns K B steps g d s=some q):r=q:=by
 have h1:=runC_mono f d s r h (max f g) (by omega)
 have h2:=runC_mono g d s q k (max f g) (by omega)
 rw [h1] at h2
 injection h2
def shR (m:Int):(Int×MS) ⊕ (Int×MS)->(Int×MS) ⊕ (Int×MS)
 | .inl r=>.inl (r.1+m,r.2)
 | .inr r=>.inr (r.1+m,r.2)
theorem turn_shift (steps d m:Int) (s:MS):turnC ns K B (steps+m) (d+m) s=(turnC ns K B steps d s).map (shR m):=by
 have e1:(d+m<steps+m)=(d<steps):=propext ⟨fun h=>by omega,fun h=>by omega⟩
 have e2:(steps+m≤d+m)=(steps≤d):=propext ⟨fun h=>by omega,fun h=>by omega⟩
 unfold turnC
 simp only [e1,e2]
 split
 ·rfl
 ·split
  ·split
   ·split
    ·split <;> rfl
    ·rfl
   ·rfl
  ·split
   ·split
    ·rfl
    ·split
     ·dsimp only [Option.map_some,shR]
      congr 3
      split
      ·omega
      ·rfl
     ·rfl
   ·rfl
theorem run_shift (steps m:Int):∀ (f:Nat) (d:Int) (s:MS),runC ns K B (steps+m) f (d+m) s=(runC ns K B steps f d s).map (fun r=>(r.1+m,r.2))
 | 0,_,_=>rfl
 | f+1,d,s=>by
  unfold runC
  rw [turn_shift]
  cases turnC ns K B steps d s with
  | none=>rfl
  | some x =>
   cases x with
   | inl y=>exact run_shift steps m f y.1 y.2
   | inr y=>rfl
theorem goOn_some (s:MS) (q:Nat):¬ ((s.goOn q).urg=[]∧(s.goOn q).oth=[]):=by
 unfold MS.goOn
 dsimp only
 split
 ·rintro⟨h,_⟩
  have h:s.urg++[q]=[]:=h
  simp at h
 ·rintro⟨_,h⟩
  have h:s.oth++[q]=[]:=h
  simp at h
theorem tell_some (s:MS) (q:Nat) (c v:Int):¬ ((s.tell q c v).urg=[]∧(s.tell q c v).oth=[]):=by
 unfold MS.tell
 split
 ·unfold MS.hasRead
  exact goOn_some _ q
 ·exact goOn_some s q
theorem wakeAll_some:∀ (f:Nat) (s:MS),¬ (s.urg=[]∧s.oth=[])->¬ ((MS.wakeAll f s).urg=[]∧(MS.wakeAll f s).oth=[])
 | 0,_,h=>h
 | f+1,s,h=>by
  unfold MS.wakeAll
  split
  ·exact h
  ·split
   ·exact wakeAll_some f _ (tell_some _ _ _ _)
   ·exact h
theorem wakeNext_some (s:MS) (h:s.asleep≠[]):¬ (s.wakeNext.urg=[]∧s.wakeNext.oth=[]):=by
 unfold MS.wakeNext
 cases ha:s.asleep with
 | nil=>exact absurd ha h
 | cons x r =>
  dsimp only
  unfold MS.wakeAll
  dsimp only
  rw [if_pos rfl]
  exact wakeAll_some _ _ (tell_some _ _ _ _)
theorem make_none (s:MS) (hc:s.cur=none) (hm:s.makeCurrent.cur=none):s.makeCurrent=s∧(s.faulty=true∨(s.urg=[]∧s.oth=[]∧s.asleep=[])):=by
 unfold MS.makeCurrent at hm ⊢
 by_cases hf:s.faulty=true
 ·rw [if_pos hf];exact⟨rfl,.inl hf⟩
 ·rw [if_neg hf] at hm ⊢
  dsimp only at hm ⊢
  by_cases hq:s.urg=[]∧s.oth=[]
  ·rw [if_pos hq] at hm ⊢
   by_cases ha:s.asleep=[]
   ·have hw:s.wakeNext=s:=by unfold MS.wakeNext;rw [ha]
    rw [hw,hq.1,hq.2]
    refine⟨?_,.inr ⟨rfl,rfl,ha⟩⟩
    dsimp only
    obtain⟨h1,h2⟩:=hq
    clear hm hw ha hf
    cases s
    simp only at hc h1 h2
    subst hc
    subst h1
    subst h2
    rfl
   ·have hs:=wakeNext_some s ha
    exfalso
    cases hu:s.wakeNext.urg with
    | cons p r=>rw [hu] at hm;cases hm
    | nil =>
     rw [hu] at hm
     cases ho:s.wakeNext.oth with
     | cons p r=>rw [ho] at hm;cases hm
     | nil=>exact hs ⟨hu,ho⟩
  ·rw [if_neg hq] at hm
   exfalso
   cases hu:s.urg with
   | cons p r=>rw [hu] at hm;cases hm
   | nil =>
    rw [hu] at hm
    cases ho:s.oth with
    | cons p r=>rw [ho] at hm;cases hm
    | nil=>exact hq ⟨hu,ho⟩
theorem turn_end {steps d:Int} {s:MS} {r:Int×MS} (h:turnC ns K B steps d s=some (.inr r)):r=(d,s)∧(d<steps->s.cur=none∧(s.faulty=true∨(s.urg=[]∧s.oth=[]∧s.asleep=[]))):=by
 unfold turnC at h
 split at h
 ·cases h
 ·cases hc:s.cur with
  | none =>
   rw [hc] at h
   dsimp only at h
   by_cases hd:d<steps
   ·rw [if_pos hd] at h
    split at h
    ·cases hm:s.makeCurrent.cur with
     | none =>
      rw [hm] at h
      dsimp only at h
      injection h with h
      injection h with h
      obtain⟨e,q⟩:=make_none s hc hm
      rw [e] at h
      exact⟨h.symm,fun _=>⟨rfl,q⟩⟩
     | some p=>rw [hm] at h;injection h with h;cases h
    ·cases h
   ·rw [if_neg hd] at h
    injection h with h
    injection h with h
    exact⟨h.symm,fun x=>absurd x hd⟩
  | some p =>
   rw [hc] at h
   dsimp only at h
   split at h
   ·split at h
    ·rename_i hz
     injection h with h
     injection h with h
     exact⟨h.symm,fun x=>by have:=hz.2;omega⟩
    ·split at h
     ·injection h with h;cases h
     ·cases h
   ·cases h
theorem turn_more {j k d:Int} {s:MS} {r:Int×MS} (hjk:j≤k) (h:turnC ns K B j d s=some (.inl r)):turnC ns K B k d s=some (.inl r):=by
 unfold turnC at h ⊢
 split at h
 ·cases h
 ·rename_i hl
  rw [if_neg hl]
  cases hc:s.cur with
  | none =>
   rw [hc] at h
   dsimp only at h ⊢
   by_cases hd:d<j
   ·rw [if_pos hd] at h
    rw [if_pos (by omega)]
    exact h
   ·rw [if_neg hd] at h;injection h with h;cases h
  | some p =>
   rw [hc] at h
   dsimp only at h ⊢
   split at h
   ·rename_i hi
    rw [if_pos hi]
    split at h
    ·injection h with h;cases h
    ·rename_i hz
     rw [if_neg (fun x=>hz ⟨x.1,by omega⟩)]
     exact h
   ·cases h
theorem run_split {j k:Int} (hjk:j≤k):∀ (f:Nat) (d:Int) (s:MS) (r:Int×MS),runC ns K B j f d s=some r->∀ q,(∃ g,runC ns K B k g d s=some q)->∃ g,runC ns K B k g r.1 r.2=some q
 | 0,_,_,_,h,_,_=>by cases h
 | f+1,d,s,r,h,q,⟨g,hg⟩=>by
  unfold runC at h
  cases ht:turnC ns K B j d s with
  | none=>rw [ht] at h;cases h
  | some x =>
   rw [ht] at h
   cases x with
   | inl y =>
    dsimp only at h
    cases g with
    | zero=>cases hg
    | succ g =>
     unfold runC at hg
     rw [turn_more hjk ht] at hg
     exact run_split hjk f y.1 y.2 r h q ⟨g,hg⟩
   | inr y =>
    dsimp only at h
    injection h with h
    obtain⟨e,_⟩:=turn_end ht
    rw [<-h,e]
    exact⟨g,hg⟩
theorem run_less {steps:Int}:∀ (f:Nat) (d:Int) (s:MS) (r:Int×MS),runC ns K B steps f d s=some r->r.1<steps->r.2.cur=none∧(r.2.faulty=true∨(r.2.urg=[]∧r.2.oth=[]∧r.2.asleep=[]))
 | 0,_,_,_,h,_=>by cases h
 | f+1,d,s,r,h,hl=>by
  unfold runC at h
  cases ht:turnC ns K B steps d s with
  | none=>rw [ht] at h;cases h
  | some x =>
   rw [ht] at h
   cases x with
   | inl y=>exact run_less f _ _ r h hl
   | inr y =>
    dsimp only at h
    injection h with h
    obtain⟨e,q⟩:=turn_end ht
    rw [<-h,e] at hl ⊢
    exact q hl
theorem stands_not {s:MS} (hc:s.cur=none) (h:s.faulty=true∨(s.urg=[]∧s.oth=[]∧s.asleep=[])):s.stands≠1:=by
 unfold MS.stands
 rcases h with h|⟨h1,h2,h3⟩
 ·rw [if_pos h];decide
 ·split
  ·decide
  ·split
   ·decide
   ·rw [if_neg (by rw [hc,h1,h2,h3];simp)]
    split <;> decide
theorem run_stands {steps:Int} {f:Nat} {d:Int} {s:MS} {r:Int×MS} (h:runC ns K B steps f d s=some r) (hs:s.stands=3∨s.stands=4):r=(d,s):=by
 have hq:s.cur=none∧s.urg=[]∧s.oth=[]∧s.asleep=[]:=by
  unfold MS.stands at hs
  by_cases h1:s.faulty=true
  ·rw [if_pos h1] at hs;omega
  ·rw [if_neg h1] at hs
   by_cases h2:s.ended=true
   ·rw [if_pos h2] at hs;omega
   ·rw [if_neg h2] at hs
    by_cases h3:s.cur≠none∨s.urg≠[]∨s.oth≠[]∨s.asleep≠[]
    ·rw [if_pos h3] at hs;omega
    ·simp only [not_or,ne_eq,Decidable.not_not] at h3
     exact h3
 cases f with
 | zero=>cases h
 | succ f =>
  unfold runC at h
  cases ht:turnC ns K B steps d s with
  | none=>rw [ht] at h;cases h
  | some x =>
   rw [ht] at h
   cases x with
   | inr y =>
    dsimp only at h
    injection h with h
    rw [<-h,(turn_end ht).1]
   | inl y =>
    exfalso
    have hm:s.makeCurrent.cur=none:=by
     unfold MS.makeCurrent
     split
     ·exact hq.1
     ·dsimp only
      rw [if_pos ⟨hq.2.1,hq.2.2.1⟩]
      have hw:s.wakeNext=s:=by unfold MS.wakeNext;rw [hq.2.2.2]
      rw [hw,hq.2.1,hq.2.2.1]
    unfold turnC at ht
    split at ht
    ·cases ht
    ·rw [hq.1] at ht
     dsimp only at ht
     split at ht
     ·split at ht
      ·rw [hm] at ht;injection ht with ht;cases ht
      ·cases ht
     ·injection ht with ht;cases ht
end
end Go.Proofs.YtnhidaamfnjdjaaGreatDoor
namespace Go.Proofs.YtnhidaamfnjdjaaGreatDoor
open Go.RowKit Go.Maps
def addO (o:List Int) (s:MS):MS:={ s with out:=o++s.out }
section
variable {ns : Bool} {K : List (Int × Int)} {B : List (Int × Int × Int)} {o : List Int}
theorem addO_goOn (s:MS) (q:Nat):(addO o s).goOn q=addO o (s.goOn q):=by
 unfold MS.goOn
 dsimp only
 have e:(((addO o s).setPr q { (addO o s).pr q with told:=0 }).pr q).urg=((s.setPr q { s.pr q with told:=0 }).pr q).urg:=rfl
 rw [e]
 split <;> rfl
theorem addO_unreads:∀ (l:List (Int×Int×Int)) (s:MS),l.foldl MS.unread (addO o s)=addO o (l.foldl MS.unread s)
 | [],_=>rfl
 | b :: l,s=>by
  rw [List.foldl_cons,List.foldl_cons]
  exact addO_unreads l (s.unread b)
theorem addO_hasRead (s:MS) (q:Nat) (c v:Int):(addO o s).hasRead q c v=addO o (s.hasRead q c v):=by
 unfold MS.hasRead
 dsimp only
 have e:(addO o s).pr q=s.pr q:=rfl
 rw [e,addO_unreads]
 split
 ·rename_i b _
  exact addO_goOn (((s.pr q).opn.foldl MS.unread s).follow q b v) q
 ·exact addO_goOn ((s.pr q).opn.foldl MS.unread s) q
theorem addO_tell (s:MS) (q:Nat) (c v:Int):(addO o s).tell q c v=addO o (s.tell q c v):=by
 unfold MS.tell
 have e:(addO o s).pr q=s.pr q:=rfl
 rw [e]
 split
 ·exact addO_hasRead s q c v
 ·exact addO_goOn s q
theorem addO_send (s:MS) (c v:Int):(addO o s).send c v=((s.send c v).1,addO o (s.send c v).2):=by
 unfold MS.send
 have e:(addO o s).ch c=s.ch c:=rfl
 rw [e]
 split
 ·rfl
 ·rw [addO_tell]
theorem addO_receive (s:MS) (c:Int):(addO o s).receive c=((s.receive c).1,addO o (s.receive c).2):=by
 unfold MS.receive
 dsimp only
 have e:(addO o s).ch c=s.ch c:=rfl
 have e2:(addO o s).setCh c { s.ch c with nums:=(s.ch c).nums.tail }=addO o (s.setCh c { s.ch c with nums:=(s.ch c).nums.tail }):=rfl
 rw [e,e2]
 generalize s.setCh c { s.ch c with nums:=(s.ch c).nums.tail }=s1
 have e3:(addO o s1).ch c=s1.ch c:=rfl
 rw [e3]
 split
 ·rfl
 ·rename_i p _
  have:=addO_tell (o:=o) (s1.setCh c { s1.ch c with wr:=none }) p 0 0
  exact Prod.ext rfl this
theorem addO_begin (s:MS) (p:Nat) (a:Int) (u:Bool):(addO o s).beginNew p a u=addO o (s.beginNew p a u):=by
 have:=addO_goOn (o:=o) { s.setPr p { s.pr p with below:=(s.pr p).below+1 } with procs:=(s.setPr p { s.pr p with below:=(s.pr p).below+1 }).procs++[⟨some p,u,a,[],0,0⟩] } (s.setPr p { s.pr p with below:=(s.pr p).below+1 }).procs.length
 exact this
theorem addO_rds (p:Nat):∀ (l:List (Int×Int×Int)) (s:MS),l.foldl (fun (s:MS) b=>s.setCh b.1 { s.ch b.1 with rd:=some p }) (addO o s)=addO o (l.foldl (fun (s:MS) b=>s.setCh b.1 { s.ch b.1 with rd:=some p }) s)
 | [],_=>rfl
 | b :: l,s=>by
  rw [List.foldl_cons,List.foldl_cons]
  exact addO_rds p l (s.setCh b.1 { s.ch b.1 with rd:=some p })
theorem addO_exec (s:MS) (p:Nat) (k a:Int):(addO o s).exec B p k a=addO o (s.exec B p k a):=by
 have pr:∀ q,(addO o s).pr q=s.pr q:=fun _=>rfl
 unfold MS.exec
 by_cases k0:k=0
 ·rw [if_pos k0,if_pos k0]
 rw [if_neg k0,if_neg k0]
 by_cases k1:k=1
 ·rw [if_pos k1,if_pos k1]
  rfl
 rw [if_neg k1,if_neg k1]
 by_cases k2:k=2
 ·rw [if_pos k2,if_pos k2]
  rfl
 rw [if_neg k2,if_neg k2]
 by_cases k3:k=3
 ·rw [if_pos k3,if_pos k3]
  rfl
 rw [if_neg k3,if_neg k3]
 by_cases k4:k=4
 ·rw [if_pos k4,if_pos k4]
  rfl
 rw [if_neg k4,if_neg k4]
 by_cases k5:k=5
 ·rw [if_pos k5,if_pos k5]
  rfl
 rw [if_neg k5,if_neg k5]
 by_cases k6:k=6
 ·rw [if_pos k6,if_pos k6]
  unfold MS.two
  show (if s.top=0 then _ else _)=addO o (if s.top=0 then _ else _)
  by_cases hz:s.top=0
  ·rw [if_pos hz,if_pos hz];rfl
  ·rw [if_neg hz,if_neg hz];rfl
 rw [if_neg k6,if_neg k6]
 by_cases k7:k=7
 ·rw [if_pos k7,if_pos k7]
  unfold MS.two
  show (if s.top=0 then _ else _)=addO o (if s.top=0 then _ else _)
  by_cases hz:s.top=0
  ·rw [if_pos hz,if_pos hz];rfl
  ·rw [if_neg hz,if_neg hz];rfl
 rw [if_neg k7,if_neg k7]
 by_cases k8:k=8
 ·rw [if_pos k8,if_pos k8]
  rfl
 rw [if_neg k8,if_neg k8]
 by_cases k9:k=9
 ·rw [if_pos k9,if_pos k9]
  rfl
 rw [if_neg k9,if_neg k9]
 by_cases k10:k=10
 ·rw [if_pos k10,if_pos k10]
  rfl
 rw [if_neg k10,if_neg k10]
 by_cases k11:k=11
 ·rw [if_pos k11,if_pos k11]
  rfl
 rw [if_neg k11,if_neg k11]
 by_cases k12:k=12
 ·rw [if_pos k12,if_pos k12]
  rfl
 rw [if_neg k12,if_neg k12]
 by_cases k13:k=13
 ·rw [if_pos k13,if_pos k13]
  show ({ s.pop with out:=(o++s.out)++[s.top] }:MS)={ s.pop with out:=o++(s.out++[s.top]) }
  rw [List.append_assoc]
 rw [if_neg k13,if_neg k13]
 by_cases k14:k=14
 ·rw [if_pos k14,if_pos k14]
  have e:(addO o s).pop.send a (addO o s).top=((s.pop.send a s.top).1,addO o (s.pop.send a s.top).2):=addO_send s.pop a s.top
  rw [e]
  generalize s.pop.send a s.top=X
  obtain⟨f,s1⟩:=X
  cases f <;> rfl
 rw [if_neg k14,if_neg k14]
 by_cases k15:k=15
 ·rw [if_pos k15,if_pos k15]
  rfl
 rw [if_neg k15,if_neg k15]
 by_cases k16:k=16
 ·rw [if_pos k16,if_pos k16]
  rw [pr]
  have ef:(s.pr p).opn.find? (fun b=>!((addO o s).ch b.1).nums.isEmpty)=(s.pr p).opn.find? (fun b=>!(s.ch b.1).nums.isEmpty):=rfl
  rw [ef]
  cases hfd:(s.pr p).opn.find? (fun b=>!(s.ch b.1).nums.isEmpty) with
  | some b =>
   dsimp only
   rw [addO_receive]
   rfl
  | none =>
   dsimp only
   rw [addO_rds]
   rfl
 rw [if_neg k16,if_neg k16]
 by_cases k17:k=17
 ·rw [if_pos k17,if_pos k17]
  have et:(addO o s).top=s.top:=rfl
  rw [et]
  by_cases h1:s.top > 1000000
  ·rw [if_pos h1,if_pos h1];rfl
  ·rw [if_neg h1,if_neg h1]
   by_cases h2:s.top > 0
   ·rw [if_pos h2,if_pos h2];rfl
   ·rw [if_neg h2,if_neg h2];rfl
 rw [if_neg k17,if_neg k17]
 by_cases k18:k=18
 ·rw [if_pos k18,if_pos k18]
  have et:(addO o s).top=s.top:=rfl
  rw [et]
  by_cases h1:s.top=0
  ·rw [if_pos h1,if_pos h1];rfl
  ·rw [if_neg h1,if_neg h1];rfl
 rw [if_neg k18,if_neg k18]
 by_cases k19:k=19
 ·rw [if_pos k19,if_pos k19]
  rfl
 rw [if_neg k19,if_neg k19]
 by_cases k20:k=20
 ·rw [if_pos k20,if_pos k20]
  rfl
 rw [if_neg k20,if_neg k20]
 by_cases k21:k=21
 ·rw [if_pos k21,if_pos k21]
  exact addO_begin s p a _
 rw [if_neg k21,if_neg k21]
 by_cases k22:k=22
 ·rw [if_pos k22,if_pos k22]
  exact addO_begin s p a _
 rw [if_neg k22,if_neg k22]
 by_cases k23:k=23
 ·rw [if_pos k23,if_pos k23]
  rw [pr]
  by_cases h1:(s.pr p).below > 0
  ·rw [if_pos h1,if_pos h1];rfl
  ·rw [if_neg h1,if_neg h1];rfl
 rw [if_neg k23,if_neg k23]
 rw [pr]
 cases hab:(s.pr p).above with
 | none=>rfl
 | some q =>
  dsimp only
  have e1:(addO o s).leave.setPr q { (addO o s).pr q with below:=((addO o s).pr q).below - 1 }=addO o (s.leave.setPr q { s.pr q with below:=(s.pr q).below - 1 }):=rfl
  rw [e1]
  generalize s.leave.setPr q { s.pr q with below:=(s.pr q).below - 1 }=s1
  have e2:((addO o s1).pr q).below=(s1.pr q).below:=rfl
  rw [e2]
  by_cases h1:(s1.pr q).below=0
  ·rw [if_pos h1,if_pos h1];exact addO_tell s1 q 0 0
  ·rw [if_neg h1,if_neg h1]
theorem addO_wakeAll:∀ (f:Nat) (s:MS),MS.wakeAll f (addO o s)=addO o (MS.wakeAll f s)
 | 0,_=>rfl
 | f+1,s=>by
  unfold MS.wakeAll
  have e:(addO o s).asleep=s.asleep:=rfl
  have e2:(addO o s).time=s.time:=rfl
  rw [e,e2]
  split
  ·rfl
  ·rename_i x r _
   split
   ·have e3:=addO_tell (o:=o) { s with asleep:=(popF (x :: r)).2 } (popF (x :: r)).1.2.2 0 0
    have e4:=addO_wakeAll f (({ s with asleep:=(popF (x :: r)).2 }:MS).tell (popF (x :: r)).1.2.2 0 0)
    rw [<-e3] at e4
    exact e4
   ·rfl
theorem addO_wakeNext (s:MS):(addO o s).wakeNext=addO o s.wakeNext:=by
 unfold MS.wakeNext
 have e:(addO o s).asleep=s.asleep:=rfl
 rw [e]
 split
 ·rfl
 ·rename_i x r _
  exact addO_wakeAll (r.length+1) { s with time:=x.1 }
theorem addO_make (s:MS):(addO o s).makeCurrent=addO o s.makeCurrent:=by
 unfold MS.makeCurrent
 have e:(addO o s).faulty=s.faulty:=rfl
 have e1:(addO o s).urg=s.urg:=rfl
 have e2:(addO o s).oth=s.oth:=rfl
 rw [e,e1,e2]
 by_cases hf:s.faulty=true
 ·rw [if_pos hf,if_pos hf]
 ·rw [if_neg hf,if_neg hf]
  dsimp only
  have e3:(if s.urg=[]∧s.oth=[] then (addO o s).wakeNext else addO o s)=addO o (if s.urg=[]∧s.oth=[] then s.wakeNext else s):=by
   split
   ·exact addO_wakeNext s
   ·rfl
  rw [e3]
  generalize (if s.urg=[]∧s.oth=[] then s.wakeNext else s)=S
  have e4:(addO o S).urg=S.urg:=rfl
  have e5:(addO o S).oth=S.oth:=rfl
  rw [e4,e5]
  split
  ·rfl
  ·split <;> rfl
theorem addO_lens {s:MS} (h:okLens (addO o s)=true):okLens s=true:=by
 unfold okLens at h ⊢
 simp only [Bool.and_eq_true,Nat.blt_eq] at h ⊢
 have e:(addO o s).out.length=o.length+s.out.length:=List.length_append
 obtain⟨⟨⟨⟨⟨⟨h1,h2⟩,h3⟩,h4⟩,h5⟩,h6⟩,h7⟩:=h
 rw [e] at h6
 exact⟨⟨⟨⟨⟨⟨h1,h2⟩,h3⟩,h4⟩,h5⟩,by omega⟩,h7⟩
theorem addO_okX {s:MS} {p:Nat} {k a:Int} {nb:Nat} (h:okX ns nb (addO o s) p k a=true):okX ns nb s p k a=true:=by
 unfold okX at h ⊢
 rw [Bool.and_eq_true,Bool.and_eq_true] at h
 rw [Bool.and_eq_true,Bool.and_eq_true]
 exact⟨⟨addO_lens h.1.1,h.1.2⟩,h.2⟩
theorem addO_okMake {s:MS} (h:okMake ns (addO o s)=true):okMake ns s=true:=by
 unfold okMake at h ⊢
 rw [addO_make] at h
 rw [Bool.and_eq_true,Bool.and_eq_true,Bool.and_eq_true] at h ⊢
 exact⟨⟨⟨addO_lens h.1.1.1,h.1.1.2⟩,h.1.2⟩,addO_lens h.2⟩
def mapO (o:List Int):(Int×MS) ⊕ (Int×MS)->(Int×MS) ⊕ (Int×MS)
 | .inl r=>.inl (r.1,addO o r.2)
 | .inr r=>.inr (r.1,addO o r.2)
theorem addO_turn {steps d:Int} {s:MS} {x:(Int×MS) ⊕ (Int×MS)} (h:turnC ns K B steps d (addO o s)=some x):∃ y,turnC ns K B steps d s=some y∧x=mapO o y:=by
 unfold turnC at h ⊢
 by_cases hl:okLens (addO o s)=false
 ·rw [if_pos hl] at h;cases h
 ·rw [if_neg hl] at h
  have hl2:¬ okLens s=false:=by
   have:=addO_lens (o:=o) (s:=s) (by cases hx:okLens (addO o s) with|true=>rfl|false=>exact absurd hx hl)
   rw [this]
   decide
  rw [if_neg hl2]
  have ec:(addO o s).cur=s.cur:=rfl
  rw [ec] at h
  cases hc:s.cur with
  | none =>
   rw [hc] at h
   dsimp only at h ⊢
   by_cases hd:d<steps
   ·rw [if_pos hd] at h ⊢
    by_cases hm:okMake ns (addO o s)=true
    ·rw [if_pos hm,addO_make] at h
     rw [if_pos (addO_okMake hm)]
     have em:(addO o s.makeCurrent).cur=s.makeCurrent.cur:=rfl
     rw [em] at h
     cases hq:s.makeCurrent.cur with
     | none=>rw [hq] at h;injection h with h;exact⟨_,rfl,h.symm⟩
     | some q=>rw [hq] at h;injection h with h;exact⟨_,rfl,h.symm⟩
    ·rw [if_neg hm] at h;cases h
   ·rw [if_neg hd] at h ⊢
    injection h with h
    exact⟨_,rfl,h.symm⟩
  | some p =>
   rw [hc] at h
   dsimp only at h ⊢
   have ep:(addO o s).pr p=s.pr p:=rfl
   have el:(addO o s).procs=s.procs:=rfl
   rw [ep,el] at h
   by_cases hi:inB (s.pr p).at_ K.length=true∧Nat.blt p s.procs.length=true
   ·rw [if_pos hi] at h ⊢
    by_cases hz:(K.getD (s.pr p).at_.toNat (0,0)).1=0∧steps≤d
    ·rw [if_pos hz] at h ⊢
     injection h with h
     exact⟨_,rfl,h.symm⟩
    ·rw [if_neg hz] at h ⊢
     have es:(addO o s).setPr p { s.pr p with at_:=(s.pr p).at_+1 }=addO o (s.setPr p { s.pr p with at_:=(s.pr p).at_+1 }):=rfl
     rw [es] at h
     split at h
     ·rename_i hok
      rw [Bool.and_eq_true] at hok
      rw [if_pos (by rw [Bool.and_eq_true];exact⟨hok.1,addO_okX hok.2⟩)]
      injection h with h
      refine⟨_,rfl,?_⟩
      rw [<-h,addO_exec]
      rfl
     ·cases h
   ·rw [if_neg hi] at h;cases h
theorem addO_run {steps:Int}:∀ (f:Nat) (d:Int) (s:MS) (r:Int×MS),runC ns K B steps f d (addO o s)=some r->∃ s',runC ns K B steps f d s=some (r.1,s')∧r.2=addO o s'
 | 0,_,_,_,h=>by cases h
 | f+1,d,s,r,h=>by
  unfold runC at h ⊢
  cases ht:turnC ns K B steps d (addO o s) with
  | none=>rw [ht] at h;cases h
  | some x =>
   obtain⟨y,hy,e⟩:=addO_turn ht
   rw [ht] at h
   rw [hy]
   cases y with
   | inl y =>
    have e:x=.inl (y.1,addO o y.2):=e
    rw [e] at h
    exact addO_run f _ _ r h
   | inr y =>
    have e:x=.inr (y.1,addO o y.2):=e
    rw [e] at h
    dsimp only at h
    injection h with h
    refine⟨y.2,?_,by rw [<-h]⟩
    rw [<-h]
end
end Go.Proofs.YtnhidaamfnjdjaaGreatDoor
namespace Go.Proofs.YtnhidaamfnjdjaaGreatDoor
open Go.RowKit Go.Maps
section
variable {ns : Bool} {K : List (Int × Int)} {B : List (Int × Int × Int)}
def PieceI (ns:Bool) (K:List (Int×Int)) (B:List (Int×Int×Int)) (kk n:Int) (sa:MS) (m:Int) (sb:MS) (o:List Int):Prop:=∃ s',(∃ g,runC ns K B kk g m sb=some (n,s'))∧sa=addO o s'
theorem addO_nil (s:MS):addO [] s=s:=rfl
theorem addO_add (a b:List Int) (s:MS):addO a (addO b s)=addO (a++b) s:=by
 unfold addO
 dsimp only
 rw [List.append_assoc]
theorem piece_start {kk n:Int} {s sa:MS} {f:Nat} (h:runC ns K B kk f 0 s=some (n,sa)):PieceI ns K B kk n sa 0 s []:=⟨sa,⟨f,h⟩,rfl⟩
theorem piece_run {kk n m size d:Int} {sa sb sb':MS} {o:List Int} (h:PieceI ns K B kk n sa m sb o) (hs:size+m≤kk) {f:Nat} (hr:runC ns K B size f 0 sb=some (d,sb')):PieceI ns K B kk n sa (m+d) sb' o:=by
 obtain⟨s',hg,e⟩:=h
 have hsh:=run_shift (ns:=ns) (K:=K) (B:=B) size m f 0 sb
 rw [hr,Int.zero_add] at hsh
 have hsh:runC ns K B (size+m) f m sb=some (d+m,sb'):=hsh
 have:=run_split hs f m sb _ hsh (n,s') hg
 rw [show m+d=d+m by omega]
 exact⟨s',this,e⟩
theorem piece_out {kk n m:Int} {sa sb:MS} {o:List Int} (h:PieceI ns K B kk n sa m sb o):PieceI ns K B kk n sa m { sb with out:=[] } (o++sb.out):=by
 obtain⟨s',⟨g,hg⟩,e⟩:=h
 have e1:sb=addO sb.out { sb with out:=[] }:=by
  unfold addO
  simp
 rw [e1] at hg
 obtain⟨s'',h1,h2⟩:=addO_run g m _ (n,s') hg
 have h2:s'=addO sb.out s'':=h2
 refine⟨s'',⟨g,h1⟩,?_⟩
 rw [e,h2,addO_add]
def Rests (K:List (Int×Int)) (s:MS):Prop:=s.cur=none∨∃ p,s.cur=some p∧inB (s.pr p).at_ K.length=true∧Nat.blt p s.procs.length=true∧(K.getD (s.pr p).at_.toNat (0,0)).1=0
theorem turn_rests {steps d:Int} {s:MS} {r:Int×MS} (h:turnC ns K B steps d s=some (.inr r)):Rests K r.2:=by
 have e:=(turn_end h).1
 rw [e]
 show Rests K s
 unfold turnC at h
 split at h
 ·cases h
 ·cases hc:s.cur with
  | none=>exact .inl hc
  | some p =>
   rw [hc] at h
   dsimp only at h
   split at h
   ·rename_i hi
    split at h
    ·rename_i hz
     exact .inr ⟨p,hc,hi.1,hi.2,hz.1⟩
    ·split at h
     ·injection h with h;cases h
     ·cases h
   ·cases h
theorem run_rests {steps:Int}:∀ (f:Nat) (d:Int) (s:MS) (r:Int×MS),runC ns K B steps f d s=some r->Rests K r.2
 | 0,_,_,_,h=>by cases h
 | f+1,d,s,r,h=>by
  unfold runC at h
  cases ht:turnC ns K B steps d s with
  | none=>rw [ht] at h;cases h
  | some x =>
   rw [ht] at h
   cases x with
   | inl y=>exact run_rests f _ _ r h
   | inr y =>
    dsimp only at h
    injection h with h
    rw [<-h]
    exact turn_rests ht
theorem rests_out {s:MS} (h:Rests K s) (o:List Int):Rests K { s with out:=o }:=h
theorem rests_zero {s:MS} (h:Rests K s) {d:Int} {f:Nat} {r:Int×MS} (hr:runC ns K B d f d s=some r):r=(d,s):=by
 cases f with
 | zero=>cases hr
 | succ f =>
  unfold runC at hr
  cases ht:turnC ns K B d d s with
  | none=>rw [ht] at hr;cases hr
  | some x =>
   rw [ht] at hr
   cases x with
   | inr y =>
    dsimp only at hr
    injection hr with hr
    rw [<-hr,(turn_end ht).1]
   | inl y =>
    exfalso
    unfold turnC at ht
    split at ht
    ·cases ht
    ·rcases h with hc|⟨p,hc,h1,h2,h3⟩
     ·rw [hc] at ht
      dsimp only at ht
      rw [if_neg (by omega)] at ht
      injection ht with ht
      cases ht
     ·rw [hc] at ht
      dsimp only at ht
      rw [if_pos ⟨h1,h2⟩,if_pos ⟨h3,Int.le_refl _⟩] at ht
      injection ht with ht
      cases ht
theorem piece_end {kk n m:Int} {sa sb:MS} {o:List Int} (h:PieceI ns K B kk n sa m sb o) (hrest:Rests K sb) (hout:sb.out=[]) (hend:m=kk∨sb.stands=3∨sb.stands=4):n=m∧sa={ sb with out:=o }:=by
 obtain⟨s',⟨g,hg⟩,e⟩:=h
 have key:(n,s')=(m,sb):=by
  rcases hend with hm|hs
  ·subst hm
   exact rests_zero hrest hg
  ·exact run_stands hg hs
 injection key with k1 k2
 refine⟨k1,?_⟩
 rw [e,k2]
 unfold addO
 rw [hout,List.append_nil]
end
end Go.Proofs.YtnhidaamfnjdjaaGreatDoor
