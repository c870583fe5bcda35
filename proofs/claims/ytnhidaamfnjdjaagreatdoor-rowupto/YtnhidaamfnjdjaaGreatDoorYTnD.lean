import Derived.Test.YtnhidaamfnjdjaaGreatDoorZPure
namespace Go.Proofs.YtnhidaamfnjdjaaGreatDoor
open Go.RowKit Go.Maps
section
variable {ns : Bool} {K : List (Int × Int)} {B : List (Int × Int × Int)}
theorem goOn_some (s:MS) (q:Nat):¬ ((s.goOn q).urg=[]∧(s.goOn q).oth=[]):=by
 unfold MS.goOn
 dsimp only
 split
 ·rintro⟨h,_⟩
  have h:s.urg++[q]=[]:=h
  simp at h
 ·rintro⟨_,h⟩
  have h:s.oth++[q]=[]:=h
  simp at h
theorem tell_some (s:MS) (q:Nat) (c v:Int):¬ ((s.tell q c v).urg=[]∧(s.tell q c v).oth=[]):=by
 unfold MS.tell
 split
 ·unfold MS.hasRead
  exact goOn_some _ q
 ·exact goOn_some s q
theorem wakeAll_some:∀ (f:Nat) (s:MS),¬ (s.urg=[]∧s.oth=[])->¬ ((MS.wakeAll f s).urg=[]∧(MS.wakeAll f s).oth=[])
 | 0,_,h=>h
 | f+1,s,h=>by
  unfold MS.wakeAll
  split
  ·exact h
  ·split
   ·exact wakeAll_some f _ (tell_some _ _ _ _)
   ·exact h
theorem wakeNext_some (s:MS) (h:s.asleep≠[]):¬ (s.wakeNext.urg=[]∧s.wakeNext.oth=[]):=by
 unfold MS.wakeNext
 cases ha:s.asleep with
 | nil=>exact absurd ha h
 | cons x r =>
  dsimp only
  unfold MS.wakeAll
  dsimp only
  rw [if_pos rfl]
  exact wakeAll_some _ _ (tell_some _ _ _ _)
theorem make_none (s:MS) (hc:s.cur=none) (hm:s.makeCurrent.cur=none):s.makeCurrent=s∧(s.faulty=true∨(s.urg=[]∧s.oth=[]∧s.asleep=[])):=by
 unfold MS.makeCurrent at hm ⊢
 by_cases hf:s.faulty=true
 ·rw [if_pos hf];exact⟨rfl,.inl hf⟩
 ·rw [if_neg hf] at hm ⊢
  dsimp only at hm ⊢
  by_cases hq:s.urg=[]∧s.oth=[]
  ·rw [if_pos hq] at hm ⊢
   by_cases ha:s.asleep=[]
   ·have hw:s.wakeNext=s:=by unfold MS.wakeNext;rw [ha]
    rw [hw,hq.1,hq.2]
    refine⟨?_,.inr ⟨rfl,rfl,ha⟩⟩
    dsimp only
    obtain⟨h1,h2⟩:=hq
    clear hm hw ha hf
    cases s
    simp only at hc h1 h2
    subst hc
    subst h1
    subst h2
    rfl
   ·have hs:=wakeNext_some s ha
    exfalso
    cases hu:s.wakeNext.urg with
    | cons p r=>rw [hu] at hm;cases hm
    | nil =>
     rw [hu] at hm
     cases ho:s.wakeNext.oth with
     | cons p r=>rw [ho] at hm;cases hm
     | nil=>exact hs ⟨hu,ho⟩
  ·rw [if_neg hq] at hm
   exfalso
   cases hu:s.urg with
   | cons p r=>rw [hu] at hm;cases hm
   | nil =>
    rw [hu] at hm
    cases ho:s.oth with
    | cons p r=>rw [ho] at hm;cases hm
    | nil=>exact hq ⟨hu,ho⟩
theorem turn_end {steps d:Int} {s:MS} {r:Int×MS} (h:turnC ns K B steps d s=some (.inr r)):r=(d,s)∧(d<steps->s.cur=none∧(s.faulty=true∨(s.urg=[]∧s.oth=[]∧s.asleep=[]))):=by
 unfold turnC at h
 split at h
 ·cases h
 ·cases hc:s.cur with
  | none =>
   rw [hc] at h
   dsimp only at h
   by_cases hd:d<steps
   ·rw [if_pos hd] at h
    split at h
    ·cases hm:s.makeCurrent.cur with
     | none =>
      rw [hm] at h
      dsimp only at h
      injection h with h
      injection h with h
      obtain⟨e,q⟩:=make_none s hc hm
      rw [e] at h
      exact⟨h.symm,fun _=>⟨rfl,q⟩⟩
     | some p=>rw [hm] at h;injection h with h;cases h
    ·cases h
   ·rw [if_neg hd] at h
    injection h with h
    injection h with h
    exact⟨h.symm,fun x=>absurd x hd⟩
  | some p =>
   rw [hc] at h
   dsimp only at h
   split at h
   ·split at h
    ·rename_i hz
     injection h with h
     injection h with h
     exact⟨h.symm,fun x=>by have:=hz.2;omega⟩
    ·split at h
     ·injection h with h;cases h
     ·cases h
   ·cases h
theorem run_less {steps:Int}:∀ (f:Nat) (d:Int) (s:MS) (r:Int×MS),runC ns K B steps f d s=some r->r.1<steps->r.2.cur=none∧(r.2.faulty=true∨(r.2.urg=[]∧r.2.oth=[]∧r.2.asleep=[]))
 | 0,_,_,_,h,_=>by cases h
 | f+1,d,s,r,h,hl=>by
  unfold runC at h
  cases ht:turnC ns K B steps d s with
  | none=>rw [ht] at h;cases h
  | some x =>
   rw [ht] at h
   cases x with
   | inl y=>exact run_less f _ _ r h hl
   | inr y =>
    dsimp only at h
    injection h with h
    obtain⟨e,q⟩:=turn_end ht
    rw [<-h,e] at hl ⊢
    exact q hl
theorem stands_not {s:MS} (hc:s.cur=none) (h:s.faulty=true∨(s.urg=[]∧s.oth=[]∧s.asleep=[])):s.stands≠1:=by
 unfold MS.stands
 rcases h with h|⟨h1,h2,h3⟩
 ·rw [if_pos h];decide
 ·split
  ·decide
  ·split
   ·decide
   ·rw [if_neg (by rw [hc,h1,h2,h3];simp)]
    split <;> decide
end
end Go.Proofs.YtnhidaamfnjdjaaGreatDoor
namespace Go.Proofs.YtnhidaamfnjdjaaGreatDoor
open Go.RowKit Go.Maps
section
variable {ns : Bool} {K : List (Int × Int)} {B : List (Int × Int × Int)} {o : List Int}
end
end Go.Proofs.YtnhidaamfnjdjaaGreatDoor
namespace Go.Proofs.YtnhidaamfnjdjaaGreatDoor
open Go.RowKit Go.Maps
section
variable {ns : Bool} {K : List (Int × Int)} {B : List (Int × Int × Int)}
end
end Go.Proofs.YtnhidaamfnjdjaaGreatDoor
