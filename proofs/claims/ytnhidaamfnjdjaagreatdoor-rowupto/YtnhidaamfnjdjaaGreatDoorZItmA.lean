import Derived.Test.YtnhidaamfnjdjaaGreatDoorZGoodA
namespace Go.Proofs.YtnhidaamfnjdjaaGreatDoor
open Go.RowKit Go.Maps
structure Itm where
 d:Nat
 b:Bs
 p:LP
def peSame:PE->PE->Bool
 | .nil,.nil=>true
 | .num a,.num b=>a == b
 | .var n a,.var m b=>n == m&&a == b
 | .pair o a b,.pair q c d=>o == q&&peSame a c&&peSame b d
 | _,_=>false
theorem peSame_eq:∀ a b:PE,peSame a b=true->a=b
 | .nil,.nil,_=>rfl
 | .num a,.num b,h=>by
  have h:(a == b)=true:=h
  rw [beq_iff_eq] at h;rw [h]
 | .var n a,.var m b,h=>by
  have h:(n == m&&a == b)=true:=h
  rw [Bool.and_eq_true,beq_iff_eq,beq_iff_eq] at h;rw [h.1,h.2]
 | .pair o a b,.pair q c d,h=>by
  have h:(o == q&&peSame a c&&peSame b d)=true:=h
  rw [Bool.and_eq_true,Bool.and_eq_true,beq_iff_eq] at h
  rw [h.1.1,peSame_eq a c h.1.2,peSame_eq b d h.2]
 | .nil,.num _,h=>by cases h
 | .nil,.var _ _,h=>by cases h
 | .nil,.pair _ _ _,h=>by cases h
 | .num _,.nil,h=>by cases h
 | .num _,.var _ _,h=>by cases h
 | .num _,.pair _ _ _,h=>by cases h
 | .var _ _,.nil,h=>by cases h
 | .var _ _,.num _,h=>by cases h
 | .var _ _,.pair _ _ _,h=>by cases h
 | .pair _ _ _,.nil,h=>by cases h
 | .pair _ _ _,.num _,h=>by cases h
 | .pair _ _ _,.var _ _,h=>by cases h
def rdSame (r:LP×Int) (p:LP):Bool:=(r.1.kind == p.kind&&r.1.name == p.name&&r.1.chan == p.chan&&peSame r.1.expr p.expr)&&r.2 == 0
theorem rdSame_eq (r:LP×Int) (p:LP) (h:rdSame r p=true):r=(p,0):=by
 obtain⟨⟨a,b,c,d⟩,e⟩:=r
 obtain⟨a',b',c',d'⟩:=p
 unfold rdSame at h
 simp only [Bool.and_eq_true,beq_iff_eq] at h
 obtain⟨⟨⟨⟨h1,h2⟩,h3⟩,h4⟩,h5⟩:=h
 rw [h1,h2,h3,peSame_eq _ _ h4,h5]
def Itm.ok (x:Itm):Bool:=headOk x.b&&rdSame (readLineF x.b (aboveFor x.p.kind)) x.p&&!(x.b.contains 10)
def Itm.line (x:Itm):Bs:=List.replicate (2 * x.d) 32++x.b
def itText (xs:List Itm):Bs:=flatL (xs.map Itm.line)
def runI:PS->Nat->List (Nat×LP)->Option PS
 | s,_,[]=>some s
 | s,n,(d,p) :: r=>if mayB s d p.kind then runI (s.put d p ((n:Int)+1)) (n+1) r else none
theorem goL_items:∀ (xs:List Itm) (s:PS) (n:Nat) (t:PS),(∀ x∈xs,x.ok=true)->runI s n (xs.map fun x=>(x.d,x.p))=some t->goL s n (xs.map Itm.line++[[]])=.ok t
 | [],s,n,t,_,h=>by
  have h:some s=some t:=h
  injection h with h
  subst h
  have:=goL_blank s n 0 []
  exact this
 | x :: xs,s,n,t,hx,h=>by
  have h:(if mayB s x.d x.p.kind then runI (s.put x.d x.p ((n:Int)+1)) (n+1) (xs.map fun x=>(x.d,x.p)) else none)=some t:=h
  by_cases hm:mayB s x.d x.p.kind=true
  ·rw [if_pos hm] at h
   have ho:=hx x (by simp)
   unfold Itm.ok at ho
   rw [Bool.and_eq_true,Bool.and_eq_true] at ho
   have e:=goL_real s n x.d x.b x.p (xs.map Itm.line++[[]]) ho.1.1 hm (rdSame_eq _ _ ho.1.2)
   show goL s n ((List.replicate (2 * x.d) 32++x.b) :: (xs.map Itm.line++[[]]))=_
   rw [e]
   exact goL_items xs _ _ t (fun y hy=>hx y (by simp [hy])) h
  ·rw [if_neg hm] at h
   cases h
theorem parse_items (xs:List Itm) (hx:∀ x∈xs,x.ok=true) (t:PS) (hr:runI startP 0 (xs.map fun x=>(x.d,x.p))=some t) (hc:t.complete 0=true) (hlen:(itText xs).length≤800):parseF (itText xs) (linesF (itText xs))=(some t,0,0):=by
 have hl:linesF (itText xs)=xs.map Itm.line++[[]]:=by
  refine linesF_flat _ (fun l hl=>?_)
  obtain⟨x,hx1,rfl⟩:=List.mem_map.1 hl
  have ho:=hx x hx1
  unfold Itm.ok at ho
  rw [Bool.and_eq_true] at ho
  intro h10
  unfold Itm.line at h10
  rcases List.mem_append.1 h10 with h|h
  ·have:=List.eq_of_mem_replicate h
   cases this
  ·have:=ho.2
   rw [Bool.not_eq_true',List.contains_eq_mem,decide_eq_false_iff_not] at this
   exact this h
 rw [parseF_go _ hlen,hl,goL_items xs startP 0 t hx hr]
 dsimp only
 rw [if_pos hc]
end Go.Proofs.YtnhidaamfnjdjaaGreatDoor
