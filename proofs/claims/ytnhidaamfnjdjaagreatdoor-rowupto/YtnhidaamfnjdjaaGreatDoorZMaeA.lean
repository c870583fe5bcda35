import Derived.Test.YtnhidaamfnjdjaaGreatDoorZMakA
import Derived.Laws.OwnMore
import Derived.Deep.RegionLaw
import Derived.Test.YtnhidaamfnjdjaaGreatDoorZMacS
import Derived.BigQuiet
import Derived.Deep.QuietTactic
namespace Go.Proofs.YtnhidaamfnjdjaaGreatDoor
open Go.RowKit
theorem run_appendL {P:Program} {t e:TypeId} {z:Value} {size bytes:Nat} (hsz:0<size) (ht:P.underlying t=some (.slice e)) (hi:(P.info? e).map (fun i=>(i.zero,i.size,i.bytes))=some (some z,size,bytes)) (hzs:z.cells.size=size) (hby:bytes≤128)
  (w:World) (ty:TypeId) (v:Value) (n:Nat) (xs:List Value) (hown:w.ownsRow 0 e size v n xs) (a:Addr) (m c:Nat) (news:List Value) (hl:news.length=m * size) (hnews:∀ (j:Nat) (u:Value),news[j]?=some u->w.cell? (a.add j)=some u) (hone:∀ u∈news,u.oneCell'=true) (hn:n+m≤1000000000000) :
  ∃ v' w',(Builtin.append_ #[t,t] ty #[v,.slice (some a) m c]).run P w=.ok v' w'∧w'.ownsRow 0 e size v' (n+m) (xs++news)∧w.grownBy w' v.ownBlock∧(v'.ownBlock=v.ownBlock∨∃ g,v'.ownBlock=some g∧w.heap.size≤g):=by
 obtain⟨i,hi1,hz,hisz,hb⟩:=info_of hi
 have hm:n+m≤maxLen:=by unfold maxLen;omega
 have hbb:((n+m)+(n+m) / 4+192) * bytes≤281474976710656:=by
  have h2:((n+m)+(n+m) / 4+192) * bytes≤2000000000000 * 128:=Nat.mul_le_mul (by omega) hby
  omega
 obtain⟨v',w',hr,h2,h3,hiff⟩:=run_append_own_wide (P:=P) w 0 t ty e i z size bytes ht hi1 hz hisz hb hzs hsz v n xs hown a m c news hl hnews hone hm hbb (Nat.zero_le _)
 refine⟨v',w',hr,h2,h3,?_⟩
 have hs:Src P i.size t (.slice (some a) m c) m news w:=Src.ofSlice w ht a m c news (by rw [hisz];exact hl) hnews hone
 rcases hown.2 with ⟨rfl,rfl⟩|⟨g,cap,cur,rfl,_,hg,hc1,hc2,hc3,hc4⟩
 ·by_cases hm0:m=0
  ·left
   rw [hiff.2 ⟨rfl,hm0⟩]
  ·have:=run_append_grow_src (P:=P) w t t ty e i z ht hi1 hz none 0 0 [] (run_firstCells_none w.drew i.size 0 0 0) (.slice (some a) m c) m news hs (by omega) (by omega) (by rw [hb];exact growslice_fits_wide (by omega) hbb)
   rw [hr] at this
   injection this with h4 _
   right
   exact⟨w.heap.size,by rw [h4];rfl,Nat.le_refl _⟩
 ·by_cases hroom:n+m≤cap
  ·have hin:(n+m) * size≤cap * size:=Nat.mul_le_mul_right _ hroom
   have:=run_append_room_src (P:=P) w t t ty e i ht hi1 g 0 n cap (.slice (some a) m c) m news hs hroom (by
    intro j hj
    rw [cell_at hg,hisz]
    have:0+n * size+j<cur.size:=by rw [hc3];rw [Nat.add_mul] at hin;rw [hl] at hj;omega
    rw [Array.getElem?_eq_getElem this];rfl) (by
    intro j hj
    exact frozen_at hg _)
   rw [hr] at this
   injection this with h4 _
   left;rw [h4];rfl
  ·have hold:(Builtin.firstCells i.size n (.slice (some ⟨g,0,none⟩) n cap)).run P w.drew=.ok xs.toArray w.drew:=by
    refine run_firstCells_some w.drew i.size n ⟨g,0,none⟩ n cap xs (by rw [hisz];exact hown.1) ?_
    intro j u hu
    have:=ownsRow_cell (n:=n * size) hg hc4 hu
    rw [add_at]
    exact this
   have:=run_append_grow_src (P:=P) w t t ty e i z ht hi1 hz (some ⟨g,0,none⟩) n cap xs hold (.slice (some a) m c) m news hs (by omega) (by omega) (by rw [hb];exact growslice_fits_wide (by omega) hbb)
   rw [hr] at this
   injection this with h4 _
   right
   exact⟨w.heap.size,by rw [h4];rfl,Nat.le_refl _⟩
theorem step_appendL {P:Program} {t e:TypeId} {z:Value} {size bytes:Nat} (hsz:0<size) (ht:P.underlying t=some (.slice e)) (hi:(P.info? e).map (fun i=>(i.zero,i.size,i.bytes))=some (some z,size,bytes)) (hzs:z.cells.size=size) (hby:bytes≤128)
  {ops:Array Oper} {o:Oper} {a:Act} {w:World} {K:Act->World->Prop} {Q:Exit->Act->World->Prop} {E:Prop}
  (hg:o.guard=none) (s x:Operand) (hop:o.op=Op.call { callee:=Callee.builtin Builtin.append,args:=#[s,x],argTypes:=#[t,t] })
  (v:Value) (n:Nat) (xs:List Value) (hs:a.eval s=v) (hown:w.ownsRow 0 e size v n xs) (ad:Addr) (m c:Nat) (news:List Value) (hx:a.eval x=.slice (some ad) m c) (hl:news.length=m * size) (hnews:∀ (j:Nat) (u:Value),news[j]?=some u->w.cell? (ad.add j)=some u) (hone:∀ u∈news,u.oneCell'=true) (hn:n+m≤1000000000000)
  (hK:∀ v' w',w'.ownsRow 0 e size v' (n+m) (xs++news)->w.grownBy w' v.ownBlock->(v'.ownBlock=v.ownBlock∨∃ g,v'.ownBlock=some g∧w.heap.size≤g)->K (a.put o.dst v') w') :
  if Region.wanted o (yielded ops a.tmps)=true then Oper.wp P o a w K Q else E:=by
 have hw:Region.wanted o (yielded ops a.tmps)=true:=by simp [Region.wanted,hg]
 rw [if_pos hw]
 obtain⟨v',w',hr,h2,h3,h4⟩:=run_appendL hsz ht hi hzs hby w o.type v n xs hown ad m c news hl hnews hone hn
 unfold Oper.wp
 simp [execOp,hop,resolve,invoke,builtin,hs,hx,hr,Result.andThen]
 exact hK v' w' h2 h3 h4
end Go.Proofs.YtnhidaamfnjdjaaGreatDoor
namespace Go.Proofs.YtnhidaamfnjdjaaGreatDoor
open Go.RowKit Go.Maps
def slV (V:MV) (x:Int×Int×Nat):List Value:=[intV x.1,intV x.2.1,V.ptr x.2.2]
theorem slps_cons (V:MV) (x:Int×Int×Nat) (l:List (Int×Int×Nat)):V.slps (x :: l)=slV V x++V.slps l:=rfl
theorem slps_at (V:MV):∀ (l:List (Int×Int×Nat)) (i:Nat),i<l.length->∀ j,j<3->(V.slps l)[i * 3+j]?=(slV V (l.getD i (0,0,0)))[j]?
 | [],i,h,_,_=>by simp at h
 | x :: l,i,h,j,hj=>by
  rw [slps_cons]
  cases i with
  | zero =>
   rw [List.getElem?_append_left (by show _<3;omega)]
   congr 1
   omega
  | succ i =>
   rw [List.getElem?_append_right (by show 3≤_;omega)]
   have:=slps_at V l i (by simpa using h) j hj
   rw [show (i+1) * 3+j - (slV V x).length=i * 3+j by show _ - 3=_;omega,this]
   rfl
theorem slps_set (V:MV):∀ (l:List (Int×Int×Nat)) (i:Nat) (x:Int×Int×Nat),i<l.length->(((V.slps l).set (i * 3) (intV x.1)).set (i * 3+1) (intV x.2.1)).set (i * 3+2) (V.ptr x.2.2)=V.slps (l.set i x)
 | [],i,x,h=>by simp at h
 | y :: l,i,x,h=>by
  cases i with
  | zero=>rfl
  | succ i =>
   have ih:=slps_set V l i x (by simpa using h)
   rw [List.set_cons_succ,slps_cons,slps_cons,<-ih]
   rw [List.set_append_right _ _ (by show 3≤_;omega),List.set_append_right _ _ (by show 3≤_;omega),List.set_append_right _ _ (by show 3≤_;omega)]
   have e:∀ k,(i+1) * 3+k - (slV V y).length=i * 3+k:=fun k=>by show _ - 3=_;omega
   rw [e 1,e 2,show (i+1) * 3 - (slV V y).length=i * 3 from e 0]
theorem bdrew {B:Nat} {a w:World} (h:Below B a w) (n:Nat):Below B a (w.drewN n):=h.trans ⟨rfl,rfl,rfl,Nat.le_refl _,fun _ _=>rfl⟩
section
variable {mb : Nat} {ρ : Nat → MR} {C : CM} {V : MV} {s : MS}
theorem mslp_put {w w':World} {l':List (Int×Int×Nat)} (h:MsAt w mb ρ C V s) (f:MsFr (fun r=>r=.slp) ρ ρ w w') (ho:w'.ownsRow 0 212 3 V.sl l'.length (V.slps l')):MsAt w' mb ρ C V { s with asleep:=l' }∧MsGo V V ρ ρ w w':=by
 have q:=h.slp (fun x=>x)
 have k:=MsIf.keep h f h.rb.1
 exact⟨⟨fun _=>k.blk (by simp),k.rb,fun _=>k.code (by simp),fun _=>k.brs (by simp),fun _=>k.vars (by simp),fun _=>k.chans (by simp),fun _=>k.stack (by simp),fun _=>k.urg (by simp),fun _=>k.oth (by simp),fun _=>⟨ho,q.2⟩,fun _=>k.out (by simp),fun i p hp _=>k.proc i p hp (by simp),fun i p hp _=>k.opn i p hp (by simp),fun i y hy _=>k.num i y hy (by simp),k.lens⟩,f.weak (fun r hr e=>by rw [hr] at e;cases e),List.prefix_rfl⟩
theorem mslp_at {w:World} (h:MsAt w mb ρ C V s) {i:Nat} (hi:i<s.asleep.length):∃ g cap,V.sl=.slice (some ⟨g,0,none⟩) s.asleep.length cap∧s.asleep.length≤cap∧cap≤maxLen∧(∀ j,j<s.asleep.length->w.cell? ⟨g,j * 3,none⟩=some (.int .i64 (s.asleep.getD j (0,0,0)).1)∧w.cell? ⟨g,j * 3+1,none⟩=some (.int .i64 (s.asleep.getD j (0,0,0)).2.1)∧w.cell? ⟨g,j * 3+2,none⟩=some (V.ptr (s.asleep.getD j (0,0,0)).2.2))∧(∀ i,w.frozen? ⟨g,i,none⟩=false)∧ρ g=.slp∧g<w.heap.size:=by
 have q:=h.slp (fun x=>x)
 obtain⟨g,cap,cur,hv,hg,h1,h2,h3,h4⟩:=row_pos q.1 (by omega)
 have at_:∀ i,i<s.asleep.length->∀ j,j<3->∀ u,(slV V (s.asleep.getD i (0,0,0)))[j]?=some u->w.cell? ⟨g,i * 3+j,none⟩=some u:=by
  intro i hi j hj u hu
  refine ownsRow_cell (n:=s.asleep.length * 3) hg h4 ?_
  rw [slps_at V s.asleep i hi j hj]
  exact hu
 exact⟨g,cap,hv,h1,h2,fun j hj=>⟨at_ j hj 0 (by omega) _ rfl,at_ j hj 1 (by omega) _ rfl,at_ j hj 2 (by omega) _ rfl⟩,fun i=>frozen_at hg i,q.2 g (by rw [hv];rfl),lt_of_at hg⟩
theorem slLen_any (a:Option Addr) (n c:Nat) (w:World):Calls Tryz.prog 291 #[.slice a n c] w fun e w'=>e=.returned (.int .i64 (n:Int))∧w'=w:=by
 go_enter Tryz.func291,Tryz.ntmps291
 go_wp2
 go_ret
 exact⟨rfl,rfl⟩
set_option maxRecDepth 20000 in
set_option maxHeartbeats 4000000 in
theorem slLess_any (w:World) (h:MsAt w mb ρ C V s) (i j:Nat) (hi:i<s.asleep.length) (hj:j<s.asleep.length) :
  Calls Tryz.prog 292 #[V.sl,.int .i64 i,.int .i64 j] w fun e w'=>e=.returned (.bool (slLess s.asleep i j))∧Below w.heap.size w w':=by
 obtain⟨g,cap,hv,h1,h2,hc,hz,_,_⟩:=mslp_at h hi
 obtain⟨i0,i1,_⟩:=hc i hi
 obtain⟨j0,j1,_⟩:=hc j hj
 rw [hv]
 have hi':(i:Int)<(s.asleep.length:Int):=by omega
 have hj':(j:Int)<(s.asleep.length:Int):=by omega
 have hD:slLess s.asleep i j=if (s.asleep.getD i (0,0,0)).1≠(s.asleep.getD j (0,0,0)).1 then decide ((s.asleep.getD i (0,0,0)).1<(s.asleep.getD j (0,0,0)).1) else decide ((s.asleep.getD i (0,0,0)).2.1<(s.asleep.getD j (0,0,0)).2.1):=rfl
 rw [hD]
 clear hc hz h hv hD hi hj
 generalize (s.asleep.getD i (0,0,0)).1=wi at *
 generalize (s.asleep.getD j (0,0,0)).1=wj at *
 generalize (s.asleep.getD i (0,0,0)).2.1=oi at *
 generalize (s.asleep.getD j (0,0,0)).2.1=oj at *
 generalize s.asleep.length=n at *
 by_cases hw:wi=wj
 ·subst hw
  rw [if_neg (by simp)]
  go_enter Tryz.func292,Tryz.ntmps292
  go_wp2_with fail
  go_quiet (fail)
  go_wp2_with fail
  go_quiet (fail)
  go_wp2_with fail
  go_ret
  exact⟨rfl,bdrew (bdrew (Below.refl _ _) _) _⟩
 ·rw [if_pos hw]
  have hwb:(wi != wj)=true:=by simpa using hw
  go_enter Tryz.func292,Tryz.ntmps292
  go_wp2_with fail
  go_quiet (fail)
  go_wp2_with fail
  go_quiet (fail)
  go_wp2_with fail
  go_ret
  exact⟨rfl,bdrew (bdrew (Below.refl _ _) _) _⟩
set_option maxRecDepth 20000 in
set_option maxHeartbeats 4000000 in
theorem slSwap_any (w:World) (h:MsAt w mb ρ C V s) (i j:Nat) (hi:i<s.asleep.length) (hj:j<s.asleep.length) :
  Calls Tryz.prog 293 #[V.sl,.int .i64 i,.int .i64 j] w fun e w'=>e=.returned (.tuple #[])∧MsAt w' mb ρ C V { s with asleep:=slSwap s.asleep i j }∧MsGo V V ρ ρ w w':=by
 obtain⟨g,cap,hv,h1,h2,hc,hz,hg,hgl⟩:=mslp_at h hi
 obtain⟨i0,i1,i2⟩:=hc i hi
 obtain⟨j0,j1,j2⟩:=hc j hj
 have hi':(i:Int)<(s.asleep.length:Int):=by omega
 have hj':(j:Int)<(s.asleep.length:Int):=by omega
 have H:=hide h
 have Hv:=hide hv
 have Hg:=hide hg
 rw [hv]
 unfold MV.ptr ptrB at i2 j2
 clear hc h hv hg
 generalize hxi:s.asleep.getD i (0,0,0)=xi at *
 generalize hxj:s.asleep.getD j (0,0,0)=xj at *
 have Hxi:=hide hxi
 have Hxj:=hide hxj
 have Hi:=hide hi
 have Hj:=hide hj
 clear hxi hxj hi hj
 generalize hnl:s.asleep.length=n at *
 have Hn:=hide hnl
 clear hnl
 generalize hpi:V.pb.getD xi.2.2 0=pi at *
 generalize hpj:V.pb.getD xj.2.2 0=pj at *
 have Hpi:=hide hpi
 have Hpj:=hide hpj
 clear hpi hpj
 have fin:∀ w',w'=((((((w.setCell ⟨g,i * 3,none⟩ (.int .i64 xj.1)).setCell ⟨g,i * 3+1,none⟩ (.int .i64 xj.2.1)).setCell ⟨g,i * 3+2,none⟩ (.pointer (some ⟨pj,0,none⟩))).setCell ⟨g,j * 3,none⟩ (.int .i64 xi.1)).setCell ⟨g,j * 3+1,none⟩ (.int .i64 xi.2.1)).setCell ⟨g,j * 3+2,none⟩ (.pointer (some ⟨pi,0,none⟩)))->MsAt w' mb ρ C V { s with asleep:=slSwap s.asleep i j }∧MsGo V V ρ ρ w w':=by
  intro w' hw
  have hne:∀ k:Nat,¬ ρ k=.slp->k≠g:=fun k hk e=>hk (by rw [e];exact Hg.out)
  have fr:MsFr (fun r=>r=.slp) ρ ρ w w':=by
   refine⟨by rw [hw];rfl,by rw [hw];rfl,by rw [hw];rfl,by rw [hw];simp,fun k _ hA=>⟨?_,rfl⟩⟩
   have:=hne k hA
   rw [hw]
   rw [Below.heap_setCell _ _ _ _ (fun e=>this e),Below.heap_setCell _ _ _ _ (fun e=>this e),Below.heap_setCell _ _ _ _ (fun e=>this e),Below.heap_setCell _ _ _ _ (fun e=>this e),Below.heap_setCell _ _ _ _ (fun e=>this e),Below.heap_setCell _ _ _ _ (fun e=>this e)]
  have q:=(H.out.slp (fun x=>x)).1
  rw [Hv.out,Hn.out] at q
  have q6:=row_set (row_set (row_set (row_set (row_set (row_set q (i * 3) (.int .i64 xj.1)) (i * 3+1) (.int .i64 xj.2.1)) (i * 3+2) (.pointer (some ⟨pj,0,none⟩))) (j * 3) (.int .i64 xi.1)) (j * 3+1) (.int .i64 xi.2.1)) (j * 3+2) (.pointer (some ⟨pi,0,none⟩))
  rw [<-hw] at q6
  refine mslp_put H.out fr ?_
  have hil:i<s.asleep.length:=by rw [Hn.out];exact Hi.out
  have hjl:j<s.asleep.length:=by rw [Hn.out];exact Hj.out
  have e1:=slps_set V s.asleep i xj hil
  have e2:=slps_set V (s.asleep.set i xj) j xi (by rw [List.length_set];exact hjl)
  have hP:∀ x:Int×Int×Nat,V.ptr x.2.2=.pointer (some ⟨V.pb.getD x.2.2 0,0,none⟩):=fun _=>rfl
  rw [hP,Hpj.out] at e1
  rw [hP,Hpi.out,<-e1] at e2
  have esw:slSwap s.asleep i j=(s.asleep.set i xj).set j xi:=by unfold slSwap;rw [Hxi.out,Hxj.out]
  have hll:(slSwap s.asleep i j).length=s.asleep.length:=by unfold slSwap;simp
  rw [Hv.out,hll,esw,<-e2,Hn.out]
  exact q6
 have Fin:=hide fin
 clear fin
 by_cases hij:i=j
 ·subst hij
  have e:xi=xj:=by rw [<-Hxi.out,<-Hxj.out]
  subst e
  have e:pi=pj:=by rw [<-Hpi.out,<-Hpj.out]
  subst e
  go_enter Tryz.func293,Tryz.ntmps293
  go_wp2_with fail
  go_region
  all_goals
   go_wp2_with fail
   go_end0
   obtain⟨k1,g1⟩:=Fin.out _ rfl
   exact⟨rfl,k1.drew,g1.drew⟩
 ·have n00:¬ i * 3=j * 3:=by omega
  have m00:¬ j * 3=i * 3:=by omega
  have n01:¬ i * 3=j * 3+1:=by omega
  have m01:¬ j * 3+1=i * 3:=by omega
  have n02:¬ i * 3=j * 3+2:=by omega
  have m02:¬ j * 3+2=i * 3:=by omega
  have n10:¬ i * 3+1=j * 3:=by omega
  have m10:¬ j * 3=i * 3+1:=by omega
  have n11:¬ i * 3+1=j * 3+1:=by omega
  have m11:¬ j * 3+1=i * 3+1:=by omega
  have n12:¬ i * 3+1=j * 3+2:=by omega
  have m12:¬ j * 3+2=i * 3+1:=by omega
  have n20:¬ i * 3+2=j * 3:=by omega
  have m20:¬ j * 3=i * 3+2:=by omega
  have n21:¬ i * 3+2=j * 3+1:=by omega
  have m21:¬ j * 3+1=i * 3+2:=by omega
  have n22:¬ i * 3+2=j * 3+2:=by omega
  have m22:¬ j * 3+2=i * 3+2:=by omega
  go_enter Tryz.func293,Tryz.ntmps293
  go_wp2_with fail
  go_region
  all_goals
   go_wp2_with fail
   go_end0
   obtain⟨k1,g1⟩:=Fin.out _ rfl
   exact⟨rfl,k1.drew,g1.drew⟩
end
end Go.Proofs.YtnhidaamfnjdjaaGreatDoor
