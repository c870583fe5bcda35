import Derived.Test.YtnhidaamfnjdjaaGreatDoorZMakA
import Derived.Test.YtnhidaamfnjdjaaGreatDoorZHeapT
import Derived.Test.YtnhidaamfnjdjaaGreatDoorZMadH
import Derived.Deep.QuietTactic
import Derived.BigQuiet
namespace Go.Proofs.YtnhidaamfnjdjaaGreatDoor
open Go.RowKit Go.Maps
theorem wpList_appendR {P:Program} {t e:TypeId} {z:Value} {bytes:Nat} (ht:P.underlying t=some (.slice e)) (hi:(P.info? e).map (fun i=>(i.zero,i.size,i.bytes))=some (some z,1,bytes)) (hzs:z.cells.size=1) (hby:bytes≤128)
  {w:World} {ops:Array Oper} {rest:List Oper} {o:Oper} {a:Act} {Q:Exit->Act->World->Prop} (hgd:o.guard=none) (s x:Operand)
  (ho:o.op=.call { callee:=.builtin .append,args:=#[s,x],argTypes:=#[t,t] })
  (v:Value) (n:Nat) (xs:List Value) (hs:a.eval s=v) (hown:w.ownsRow 0 e 1 v n xs) (v2:Value) (ys:List Value) (hx:a.eval x=v2) (hq:QAt w e v2 ys) (hone:∀ u∈ys,u.oneCell'=true) (hn:n+ys.length≤1000000)
  (h:∀ v' w',w'.ownsRow 0 e 1 v' (n+ys.length) (xs++ys)->w.grownBy w' v.ownBlock->(v'.ownBlock=v.ownBlock∨∃ g,v'.ownBlock=some g∧w.heap.size≤g)->wpList P ops Q rest (a.put o.dst v') w'):wpList P ops Q (o :: rest) a w:=by
 rcases hq with ⟨rfl,rfl⟩|⟨g,off,cap,cur,rfl,hg,h1,h2,h3,h4⟩
 ·refine wpList_append0 ht hi hgd s x ho v n xs hs hown hx (h v w ?_ ⟨rfl,rfl,rfl,Nat.le_refl _,fun _ _ _=>rfl⟩ (.inl rfl))
  simpa using hown
 ·refine wpList_appendM (by decide) ht hi hzs hby hgd s x ho v n xs hs hown ⟨g,off,none⟩ ys.length cap ys hx (by simp) (fun j u hu=>?_) hone hn h
  have hj:j<ys.length:=(List.getElem?_eq_some_iff.1 hu).1
  have ea:(⟨g,off,none⟩:Addr).add j=⟨g,off+j,none⟩:=by cases j <;> simp [Addr.add]
  rw [ea]
  rw [cell_at hg]
  rw [<-h4] at hu
  rw [List.getElem?_take,if_pos hj,List.getElem?_drop] at hu
  simpa using hu
end Go.Proofs.YtnhidaamfnjdjaaGreatDoor
namespace Go.Proofs.YtnhidaamfnjdjaaGreatDoor
open Go.RowKit Go.Maps
def RowI (w:World) (va:Option Addr) (A:List Int):Prop:=∀ k,k<A.length->∃ g off,va=some ⟨g,off,none⟩∧w.cell? ⟨g,off+k,none⟩=some (.int .i64 (A.getD k 0))
theorem RowI.of {w:World} {va:Option Addr} {A:List Int} {cc:Nat} (h:QAt w 3 (.slice va A.length cc) (A.map intV)):RowI w va A:=by
 intro k hk
 obtain⟨g,off,cap,hv,_,_,hc,_,_⟩:=h.shape (by rw [List.length_map];omega)
 rw [Value.slice.injEq] at hv
 refine⟨g,off,hv.1,hc k _ ?_⟩
 rw [List.getElem?_map,List.getElem?_eq_getElem hk,getD_lt _ _ _ hk]
 rfl
theorem drewN_add (w:World) (a b:Nat):(w.drewN a).drewN b=w.drewN (a+b):=by
 induction b with
 | zero=>rfl
 | succ b ih=>exact congrArg World.drew ih
set_option maxHeartbeats 1000000 in
theorem same_true (w:World) (va vb:Option Addr) (ca cb:Nat) (A:List Int) (hl:A.length≤1000000000000) (h1:RowI w va A) (h2:RowI w vb A) (n:Nat) (hn:A.length=n):Calls Tryz.prog 23 #[.slice va n ca,.slice vb n cb] w fun e w'=>e=.returned (.bool true)∧∃ j,w'=w.drewN j:=by
 subst hn
 have H1:=hide h1
 have H2:=hide h2
 clear h1 h2
 go_enter Tryz.func23,Tryz.ntmps23
 go_wp2
 go_loopw [5] (fun i wr=>∃ k:Nat,k≤A.length∧i=.int .i64 k∧RowI wr va A∧RowI wr vb A∧∃ j,wr=w.drewN j) (fun i _=>A.length - (intOf i).toNat)
 case atStart=>exact⟨0,Nat.zero_le _,rfl,H1.out,H2.out,0,rfl⟩
 case round =>
  obtain⟨k,hk,rfl,r1,r2,hj⟩:=hrel
  have HJ:=hide hj
  have R1:=hide r1
  have R2:=hide r2
  by_cases hlt:k<A.length
  ·obtain⟨g1,o1,rfl,c1⟩:=r1 k hlt
   obtain⟨g2,o2,rfl,c2⟩:=r2 k hlt
   have hki:(k:Int)<A.length:=by omega
   clear hj r1 r2 H1 H2
   generalize A.getD k 0=x at *
   have hxx:(x == x)=true:=by simp
   go_wp2
   go_big_quiet (fail)
   go_wp2
   go_roundw
   case rel =>
    obtain⟨j,hj⟩:=HJ.out
    refine⟨k+1,by omega,by go_num,R1.out,R2.out,j+nq,?_⟩
    rw [hj]
    exact drewN_add w j nq
   case measure=>simp [intOf];omega
  ·obtain rfl:k=A.length:=by omega
   clear hj r1 r2 H1 H2 R1 R2
   go_wp2
   go_ret
   exact⟨rfl,HJ.out⟩
end Go.Proofs.YtnhidaamfnjdjaaGreatDoor
