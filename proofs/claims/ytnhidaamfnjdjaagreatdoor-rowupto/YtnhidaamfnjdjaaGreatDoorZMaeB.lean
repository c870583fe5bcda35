import Derived.Test.YtnhidaamfnjdjaaGreatDoorZMaeA
import Derived.Deep.RegionHeld3
namespace Go.Proofs.YtnhidaamfnjdjaaGreatDoor
open Go.RowKit Go.Maps
theorem slpInfo:(Tryz.prog.info? 212).map (fun i=>(i.zero,i.size,i.bytes))=some (some (.agg #[.int .i64 0,.int .i64 0,.pointer none]),3,24):=by kernel_rfl
theorem slV_one (V:MV) (x:Int×Int×Nat):∀ u∈slV V x,u.oneCell'=true:=by
 intro u hu
 simp only [slV,List.mem_cons,List.not_mem_nil,or_false] at hu
 rcases hu with rfl|rfl|rfl <;> rfl
theorem slps_append (V:MV) (l:List (Int×Int×Nat)) (x:Int×Int×Nat):V.slps (l++[x])=V.slps l++slV V x:=by
 induction l with
 | nil=>rfl
 | cons y l ih=>rw [List.cons_append,slps_cons,slps_cons,ih,List.append_assoc]
section
variable {mb : Nat} {ρ : Nat → MR} {C : CM} {V : MV} {s : MS}
theorem mslp_new {w w':World} {ρ':Nat->MR} {v':Value} {l':List (Int×Int×Nat)} (h:MsAt w mb ρ C V s) (f:MsFr (Two .slp) ρ ρ' w w') (hm:ρ' mb=.mach) (hb:w'.heap[mb]?=some (.cells ((V.mach s).setIfInBounds 8 v') 102)) (ho:w'.ownsRow 0 212 3 v' l'.length (V.slps l')) (hr:Ro' ρ' v' .slp) :
  MsAt w' mb ρ' C { V with sl:=v' } { s with asleep:=l' }∧MsGo V { V with sl:=v' } ρ ρ' w w':=by
 have k:=MsIf.keep h f hm
 have out:∀ r,r≠.mach->r≠.slp->¬ Two .slp r:=fun r h1 h2 x=>x.elim h1 h2
 exact⟨⟨fun _=>hb,k.rb,fun _=>k.code (out _ (by simp) (by simp)),fun _=>k.brs (out _ (by simp) (by simp)),fun _=>k.vars (out _ (by simp) (by simp)),fun _=>k.chans (out _ (by simp) (by simp)),fun _=>k.stack (out _ (by simp) (by simp)),fun _=>k.urg (out _ (by simp) (by simp)),fun _=>k.oth (out _ (by simp) (by simp)),fun _=>⟨ho,hr⟩,fun _=>k.out (out _ (by simp) (by simp)),fun i p hp _=>k.proc i p hp (out _ (by simp) (by simp)),fun i p hp _=>k.opn i p hp (out _ (by simp) (by simp)),fun c x hx _=>k.num c x hx (out _ (by simp) (by simp)),k.lens⟩,f.weak (junk_of (by simp)),List.prefix_rfl⟩
theorem mslp_app {w w4:World} {O:Obj} {v':Value} {x:Int×Int×Nat} (h:MsAt w mb ρ C V s)
  (g4:(w.alloc O).drew.grownBy w4 V.sl.ownBlock) (o4:w4.ownsRow 0 212 3 v' (s.asleep.length+1) (V.slps s.asleep++slV V x)) (b4:v'.ownBlock=V.sl.ownBlock∨∃ g,v'.ownBlock=some g∧(w.alloc O).drew.heap.size≤g) :
  MsAt (w4.setCell ⟨mb,8,none⟩ v') mb (newR w.heap.size ρ v' .slp) C { V with sl:=v' } { s with asleep:=s.asleep++[x] }∧MsGo V { V with sl:=v' } ρ (newR w.heap.size ρ v' .slp) w (w4.setCell ⟨mb,8,none⟩ v'):=by
 have q:=h.slp (fun x=>x)
 have hsz:(w.alloc O).drew.heap.size=w.heap.size+1:=by show (w.alloc O).heap.size=_;simp
 have nm:∀ g,V.sl.ownBlock=some g->g≠mb:=fun g hg e=>by have:=q.2 g hg;rw [e,h.rb.1] at this;cases this
 have hmb:=h.rb.2
 have fr:MsFr (Two .slp) ρ (newR w.heap.size ρ v' .slp) w (w4.setCell ⟨mb,8,none⟩ v'):=by
  refine⟨g4.os,g4.tape,g4.output,?_,fun k hk hA=>⟨?_,newR_old hk⟩⟩
  ·have:=g4.size
   have h2:(w4.setCell ⟨mb,8,none⟩ v').heap.size=w4.heap.size:=by simp
   omega
  ·rw [Below.heap_setCell _ _ _ _ (fun e=>hA (.inl (by have:k=mb:=e;rw [this];exact h.rb.1))),g4.block k (by omega) (fun e=>hA (.inr (q.2 k e.symm)))]
   exact Below.heap_alloc w O k hk
 have hb4:w4.heap[mb]?=some (.cells (V.mach s) 102):=by
  rw [g4.block mb (by omega) (fun e=>nm mb e.symm rfl)]
  show (w.alloc O).heap[mb]?=_
  rw [Below.heap_alloc w O mb hmb]
  exact h.blk (fun x=>x)
 have nv:v'.ownBlock≠some mb:=by
  intro e
  rcases b4 with e2|⟨g,e2,hg⟩
  ·exact nm mb (by rw [<-e2];exact e) rfl
  ·rw [e2] at e
   injection e with e
   omega
 refine mslp_new h fr (by rw [newR_old hmb];exact h.rb.1) (at_setCell hb4 8 v') ?_ ?_
 ·rw [List.length_append,List.length_singleton,slps_append]
  exact ownsRow_frame o4 (fun g hg=>Below.heap_setCell _ _ _ _ (fun e=>nv (by have:g=mb:=e;rw [<-this];exact hg)))
 ·intro g hg
  rcases b4 with e|⟨g',e,hge⟩
  ·have hol:g<w.heap.size:=own_lt q.1 (by rw [<-e];exact hg)
   rw [newR_old hol]
   exact q.2 g (by rw [<-e];exact hg)
  ·rw [e] at hg
   injection hg with hg
   subst hg
   unfold newR
   rw [if_neg (by omega),if_pos e]
theorem slTa (v:Value) (W:World):(Instr.typeAssert (.iface 212 v) 20 212 false).run Tryz.prog W=.ok v W:=by kernel_rfl
def slIf (V:MV) (x:Int×Int×Nat):Value:=.iface 212 (.agg #[intV x.1,intV x.2.1,V.ptr x.2.2])
set_option maxRecDepth 20000 in
set_option maxHeartbeats 4000000 in
theorem slPush_any (x:Int×Int×Nat) (w:World) (h:MsAt w mb ρ C V s) (hl:s.asleep.length+1≤1000000000000) :
  Calls Tryz.prog 295 #[.pointer (some ⟨mb,8,none⟩),slIf V x] w fun e w'=>e=.returned (.tuple #[])∧MsPost mb C ρ V w { s with asleep:=s.asleep++[x] } w':=by
 have q:=h.slp (fun x=>x)
 obtain⟨oa,oc,hov⟩:=ownsRow_len q.1
 have c8:w.cell? ⟨mb,8,none⟩=some (.slice oa s.asleep.length oc):=by rw [<-hov];exact cell_at (h.blk (fun x=>x)) 8
 have law:∀ (w4:World),(w.alloc (.cells #[intV x.1,intV x.2.1,V.ptr x.2.2] 212)).drew.grownBy w4 V.sl.ownBlock->w4.heap[mb]?=some (.cells (V.mach s) 102):=by
  intro w4 g4
  have hmb:=h.rb.2
  have hsz:(w.alloc (.cells #[intV x.1,intV x.2.1,V.ptr x.2.2] 212)).drew.heap.size=w.heap.size+1:=by show (w.alloc _).heap.size=_;simp
  rw [g4.block mb (by omega) (fun e=>by have:=q.2 mb e.symm;rw [h.rb.1] at this;cases this)]
  show (w.alloc _).heap[mb]?=_
  rw [Below.heap_alloc _ _ _ hmb]
  exact h.blk (fun x=>x)
 have fin:∀ (v':Value) (w4:World),(w.alloc (.cells #[intV x.1,intV x.2.1,V.ptr x.2.2] 212)).drew.grownBy w4 V.sl.ownBlock->w4.ownsRow 0 212 3 v' (s.asleep.length+1) (V.slps s.asleep++slV V x)->(v'.ownBlock=V.sl.ownBlock∨∃ g,v'.ownBlock=some g∧(w.alloc (.cells #[intV x.1,intV x.2.1,V.ptr x.2.2] 212)).drew.heap.size≤g)->MsPost mb C ρ V w { s with asleep:=s.asleep++[x] } (w4.setCell ⟨mb,8,none⟩ v'):=fun v' w4 g4 o4 b4=>⟨_,_,mslp_app h g4 o4 b4⟩
 have pc:∀ (w4:World),w4.heap[mb]?=some (.cells (V.mach s) 102)->w4.cell? ⟨mb,8,none⟩=some V.sl:=fun w4 hw4=>cell_at hw4 8
 have o1:=q.1
 rw [hov] at law fin pc o1
 have one:=slV_one V x
 have Law:=hide law;have Fin:=hide fin;have Pc:=hide pc;have O1:=hide o1;have One:=hide one
 have hmbl:=h.rb.2
 unfold slIf MV.ptr ptrB intV
 unfold MV.ptr ptrB intV at Law Fin
 have esl:Hid (slV V x=[.int .i64 x.1,.int .i64 x.2.1,.pointer (some ⟨V.pb.getD x.2.2 0,0,none⟩)]):=hide rfl
 generalize hsv:slV V x=sv at *
 clear h q law fin pc o1 hov one hsv
 generalize { s with asleep:=s.asleep++[x] }=s2 at *
 generalize hcs:V.mach s=pcs at *
 clear hcs
 generalize V.slps s.asleep=ol at *
 generalize s.asleep.length=n at *
 generalize V.pb.getD x.2.2 0=pb at *
 have ta:=slTa
 go_enter Tryz.func295,Tryz.ntmps295
 go_wp2_with fail
 go_region_law (refine step_appendL (by decide) Tryz.underlying100 slpInfo rfl (by decide) rfl _ _ rfl (.slice oa n oc) n ol (by simp [Act.eval]) (by exact (ownsRow_frame O1.out (fun _ _=>rfl)).alloc _) ⟨w.heap.size,0,none⟩ 1 1 sv (by simp [Act.eval]) (by rw [esl.out];rfl) (by rw [esl.out];exact row_new _ _ rfl _ _) One.out hl ?_;intro v' w4 o4 g4 b4;obtain⟨va',vc',hv'⟩:=ownsRow_len o4;subst hv';have hv4:=Law.out _ g4;have f4:=Pc.out _ hv4;have z4:∀ i,w4.frozen? ⟨mb,i,none⟩=false:=(fun i=>frozen_at hv4 i);have R:=hide (Fin.out _ _ g4 o4 b4);clear o4 g4 b4 hv4)
 all_goals
  go_wp2_with fail
  go_end0
  exact⟨rfl,R.out⟩
end
end Go.Proofs.YtnhidaamfnjdjaaGreatDoor
namespace Go.Proofs.YtnhidaamfnjdjaaGreatDoor
open Go.RowKit Go.Maps
theorem found_of {o:Option TypeInfo} {nm:String} {f:Nat} {b:Bool} (hi:o.map (fun i=>(i.methods.find? (fun x=>x.name == nm)).map (fun m=>(m.path,m.func)))=some (some (#[],some (f,b)))):∃ I m,o=some I∧I.methods.find? (fun x=>x.name == nm)=some m∧m.path=#[]∧m.func=some (f,b):=by
 cases o with
 | none=>cases hi
 | some I =>
  simp only [Option.map_some,Option.some.injEq] at hi
  cases hm:I.methods.find? (fun x=>x.name == nm) with
  | none=>rw [hm] at hi;cases hi
  | some m =>
   rw [hm] at hi
   simp only [Option.map_some,Option.some.injEq,Prod.mk.injEq] at hi
   exact⟨I,m,rfl,hm,hi.1,hi.2⟩
theorem method_gen {P : Program} {f t : Nat} {b : Bool} {nm nm2 : String} {I : TypeInfo} {m : Method} {x v : Value} {W : World} (hI : P.info? t = some I) (hm : I.methods.find? (fun x => x.name == nm) = some m) (h1 : m.path = #[]) (h2 : m.func = some (f, b)) (hn : (nm.splitOn ".").getLastD nm = nm2) (hr : (receiverAt t (.val x) b (some nm2)).run P W = .ok v W) (n : Nat) : (method (n + 1) t x nm).run P W = .ok (f, v) W := by
 unfold method
 simp [Sem.run_bind,typeInfo,hI,hm,h1,h2,follow]
 have hn' : (nm.splitOn ".").getLast?.getD nm = nm2 := by rw [← hn, List.getLastD_eq_getLast?]
 rw [hn']
 simp [hr]
def slI (mb:Nat):Value:=.iface 214 (.pointer (some ⟨mb,8,none⟩))
theorem mth_len (mb : Nat) (v : Value) (W : World) (h : W.cell? ⟨mb, 8, none⟩ = some v) : (method 431 214 (.pointer (some ⟨mb, 8, none⟩)) "Len").run Tryz.prog W = .ok (291, v) W := by
 obtain ⟨I, m, h1, h2, h3, h4⟩ := found_of (o := Tryz.prog.info? 214) (nm := "Len") (f := 291) (b := false) (by kernel_rfl)
 refine method_gen h1 h2 h3 h4 rfl ?_ 430
 have e : (receiverAt 214 (.val (.pointer (some ⟨mb, 8, none⟩))) false (some (("Len".splitOn ".").getLastD "Len"))).run Tryz.prog W = (load ⟨mb, 8, none⟩).run Tryz.prog W := by kernel_rfl
 rw [e]
 go_simp
theorem mth_less (mb : Nat) (v : Value) (W : World) (h : W.cell? ⟨mb, 8, none⟩ = some v) : (method 431 214 (.pointer (some ⟨mb, 8, none⟩)) "Less").run Tryz.prog W = .ok (292, v) W := by
 obtain ⟨I, m, h1, h2, h3, h4⟩ := found_of (o := Tryz.prog.info? 214) (nm := "Less") (f := 292) (b := false) (by kernel_rfl)
 refine method_gen h1 h2 h3 h4 rfl ?_ 430
 have e : (receiverAt 214 (.val (.pointer (some ⟨mb, 8, none⟩))) false (some (("Less".splitOn ".").getLastD "Less"))).run Tryz.prog W = (load ⟨mb, 8, none⟩).run Tryz.prog W := by kernel_rfl
 rw [e]
 go_simp
theorem mth_swap (mb : Nat) (v : Value) (W : World) (h : W.cell? ⟨mb, 8, none⟩ = some v) : (method 431 214 (.pointer (some ⟨mb, 8, none⟩)) "Swap").run Tryz.prog W = .ok (293, v) W := by
 obtain ⟨I, m, h1, h2, h3, h4⟩ := found_of (o := Tryz.prog.info? 214) (nm := "Swap") (f := 293) (b := false) (by kernel_rfl)
 refine method_gen h1 h2 h3 h4 rfl ?_ 430
 have e : (receiverAt 214 (.val (.pointer (some ⟨mb, 8, none⟩))) false (some (("Swap".splitOn ".").getLastD "Swap"))).run Tryz.prog W = (load ⟨mb, 8, none⟩).run Tryz.prog W := by kernel_rfl
 rw [e]
 go_simp
theorem mth_push (mb : Nat) (W : World) : (method 431 214 (.pointer (some ⟨mb, 8, none⟩)) "Push").run Tryz.prog W = .ok (295, .pointer (some ⟨mb, 8, none⟩)) W := by kernel_rfl
theorem mth_pop (mb : Nat) (W : World) : (method 431 214 (.pointer (some ⟨mb, 8, none⟩)) "Pop").run Tryz.prog W = .ok (294, .pointer (some ⟨mb, 8, none⟩)) W := by kernel_rfl
theorem upF_fuel:∀ (f f' j:Nat) (l:List (Int×Int×Nat)),j<f->j<f'->upF f j l=upF f' j l
 | 0,_,_,_,h,_=>by omega
 | _+1,0,_,_,_,h=>by omega
 | f+1,f'+1,j,l,h1,h2=>by
  unfold upF
  split
  ·rfl
  ·rename_i h
   have hj:j≠0:=fun e=>h (.inl e)
   exact upF_fuel f f' ((j - 1) / 2) _ (by omega) (by omega)
theorem swap_len (l:List (Int×Int×Nat)) (i j:Nat):(slSwap l i j).length=l.length:=by unfold slSwap;simp
section
variable {mb : Nat} {ρ : Nat → MR} {C : CM} {V : MV} {s : MS}
theorem mslp_cell {w:World} (h:MsAt w mb ρ C V s):w.cell? ⟨mb,8,none⟩=some V.sl:=cell_at (h.blk (fun x=>x)) 8
set_option maxRecDepth 20000 in
set_option maxHeartbeats 4000000 in
theorem hup_any (j:Nat) (hj:j<s.asleep.length) (w:World) (h:MsAt w mb ρ C V s) (hn:s.asleep.length≤1000000000000) :
  Calls Tryz.prog 217 #[slI mb,.int .i64 j] w fun e w'=>e=.returned (.tuple #[])∧MsAt w' mb ρ C V { s with asleep:=upF (j+1) j s.asleep }∧MsGo V V ρ ρ w w':=by
 obtain⟨ga,gc,hv⟩:=ownsRow_len (h.slp (fun x=>x)).1
 generalize hR:upF (j+1) j s.asleep=R
 have HR:=hide hR
 have H:=hide h
 have Hv:=hide hv
 clear h hR hv
 unfold slI
 generalize hnl:s.asleep.length=n at *
 have Hn:=hide hnl
 clear hnl
 go_enter Tryz.func217,Tryz.ntmps217
 go_wp2_with fail
 go_loopw [1,4] (fun y _ wr=>∃ (k:Nat) (l:List (Int×Int×Nat)),y=.int .i64 k∧k<n∧l.length=n∧upF (k+1) k l=R∧MsAt wr mb ρ C V { s with asleep:=l }∧MsGo V V ρ ρ w wr) (fun y _ _=>(intOf y).toNat)
 case atStart=>exact⟨j,s.asleep,rfl,hj,Hn.out,HR.out,H.out,MsGo.refl _ _ _⟩
 case round =>
  obtain⟨k,l,rfl,hk,hl,hu,k1,f1⟩:=hrel
  have c8:=mslp_cell k1
  rw [Hv.out] at c8
  have Is:=hide (mth_swap mb (.slice ga n gc))
  have iv:=mth_less mb (.slice ga n gc) wr c8
  by_cases hk0:k=0
  ·subst hk0
   have e:l=R:=by rw [<-hu];rfl
   subst e
   have K1:=hide k1
   have F1:=hide f1
   clear k1 f1 hu
   go_wp2_with fail
   go_end0
   exact⟨rfl,K1.out,F1.out⟩
  ·have hi:((k:Int) - 1) / 2=(((k - 1) / 2:Nat):Int):=by omega
   have hil:(k - 1) / 2<n:=by omega
   have hne:((((k - 1) / 2:Nat):Int) == (k:Int))=false:=by rw [beq_eq_false_iff_ne];omega
   have L:=hide (slLess_any (s:={ s with asleep:=l }) wr k1 k ((k - 1) / 2) (by show k<l.length;omega) (by show _<l.length;omega))
   rw [Hv.out] at L
   have hu2:upF (k+1) k l=if slLess l k ((k - 1) / 2)=false then l else upF k ((k - 1) / 2) (slSwap l ((k - 1) / 2) k):=by
    show (if k=0∨slLess l k ((k - 1) / 2)=false then l else upF k ((k - 1) / 2) (slSwap l ((k - 1) / 2) k))=_
    by_cases hs:slLess l k ((k - 1) / 2)=false
    ·rw [if_pos (.inr hs),if_pos hs]
    ·rw [if_neg (fun x=>x.elim hk0 hs),if_neg hs]
   rw [hu2] at hu
   have K1:=hide k1
   have F1:=hide f1
   clear k1 f1 hu2
   have hik:(k - 1) / 2<k:=by omega
   generalize (k - 1) / 2=i at *
   cases hs:slLess l k i with
   | false =>
    rw [if_pos hs] at hu
    subst hu
    have L2:Hid (Calls Tryz.prog 292 #[.slice ga n gc,.int .i64 k,.int .i64 i] wr fun e w'=>e=.returned (.bool false)∧Below wr.heap.size wr w'):=hide (by rw [<-hs];exact L.out)
    clear L hs
    go_wp2_with (go_at_call 292;refine L2.out.mono ?_;rintro e w2 ⟨rfl,b2⟩;have B2:=hide b2;clear b2)
    go_end0
    obtain⟨k2,g2⟩:=K1.out.low B2.out
    exact⟨rfl,k2,F1.out.trans g2⟩
   | true =>
    rw [if_neg (by rw [hs];simp)] at hu
    have Hu:=hide hu
    have L2:Hid (Calls Tryz.prog 292 #[.slice ga n gc,.int .i64 k,.int .i64 i] wr fun e w'=>e=.returned (.bool true)∧Below wr.heap.size wr w'):=hide (by rw [<-hs];exact L.out)
    clear L hs hu
    go_wp2_with (first
     | (go_at_call 292;refine L2.out.mono ?_;rintro e w2 ⟨rfl,b2⟩;obtain⟨k2,g2⟩:=K1.out.low b2;have c82:=mslp_cell k2;rw [Hv.out] at c82;have is:=Is.out w2 c82;have S:=hide (slSwap_any (s:={ s with asleep:=l }) w2 k2 i k (by show i<l.length;omega) (by show k<l.length;omega));rw [Hv.out] at S;have G2:=hide (F1.out.trans g2);clear k2 g2 b2 L2)
     | (go_at_call 293;refine S.out.mono ?_;rintro e w3 ⟨rfl,k3,g3⟩;have K3:=hide k3;have G3:=hide (G2.out.trans g3);clear k3 g3 S))
    go_roundw
    case rel=>exact⟨i,slSwap l i k,rfl,hil,by rw [swap_len];exact hl,by rw [upF_fuel (i+1) k i _ (by omega) hik];exact Hu.out,K3.out,G3.out⟩
    case measure=>simp [intOf];omega
end
end Go.Proofs.YtnhidaamfnjdjaaGreatDoor
namespace Go.Proofs.YtnhidaamfnjdjaaGreatDoor
open Go.RowKit Go.Maps
def downJ (i n:Nat) (l:List (Int×Int×Nat)):Nat:=if 2 * i+2<n∧slLess l (2 * i+2) (2 * i+1)=true then 2 * i+2 else 2 * i+1
theorem downF_at (f i n:Nat) (l:List (Int×Int×Nat)):downF (f+1) i n l=if n≤2 * i+1 then l else if slLess l (downJ i n l) i=false then l else downF f (downJ i n l) n (slSwap l i (downJ i n l)):=rfl
theorem downJ_gt (i n:Nat) (l:List (Int×Int×Nat)):i<downJ i n l:=by unfold downJ;split <;> omega
theorem downJ_lt (i n:Nat) (l:List (Int×Int×Nat)) (h:¬ n≤2 * i+1):downJ i n l<n:=by
 unfold downJ
 split
 ·rename_i x;exact x.1
 ·omega
theorem downF_fuel:∀ (f f' i n:Nat) (l:List (Int×Int×Nat)),n≤i+f->n≤i+f'->downF f i n l=downF f' i n l
 | 0,0,_,_,_,_,_=>rfl
 | 0,f'+1,i,n,l,h,_=>by rw [downF_at,if_pos (by omega)];rfl
 | f+1,0,i,n,l,_,h=>by rw [downF_at,if_pos (by omega)];rfl
 | f+1,f'+1,i,n,l,h1,h2=>by
  rw [downF_at,downF_at]
  have:=downJ_gt i n l
  split
  ·rfl
  ·split
   ·rfl
   ·exact downF_fuel f f' _ n _ (by omega) (by omega)
theorem downF_len:∀ (f i n:Nat) (l:List (Int×Int×Nat)),(downF f i n l).length=l.length
 | 0,_,_,_=>rfl
 | f+1,i,n,l=>by
  rw [downF_at]
  split
  ·rfl
  ·split
   ·rfl
   ·rw [downF_len f,swap_len]
def IsB (e:Ending):Prop:=∃ b,e=.returned (.bool b)
section
variable {mb : Nat} {ρ : Nat → MR} {C : CM} {V : MV} {s : MS}
set_option maxRecDepth 20000 in
set_option maxHeartbeats 4000000 in
theorem hdown_any (N:Nat) (hN:N≤s.asleep.length) (w:World) (h:MsAt w mb ρ C V s) (hn:s.asleep.length≤1000000000000) :
  Calls Tryz.prog 198 #[slI mb,.int .i64 0,.int .i64 N] w fun e w'=>IsB e∧MsAt w' mb ρ C V { s with asleep:=downF N 0 N s.asleep }∧MsGo V V ρ ρ w w':=by
 obtain⟨ga,gc,hv⟩:=ownsRow_len (h.slp (fun x=>x)).1
 generalize hR:downF N 0 N s.asleep=R
 have HR:=hide hR
 have H:=hide h
 have Hv:=hide hv
 clear h hR hv
 unfold slI
 generalize hnl:s.asleep.length=n at *
 have Hn:=hide hnl
 clear hnl
 go_enter Tryz.func198,Tryz.ntmps198
 go_wp2_with fail
 go_loopw [7,8,9,10] (fun y _ _ _ wr=>∃ (k:Nat) (l:List (Int×Int×Nat)),y=.int .i64 k∧k≤N∧l.length=n∧downF (N - k) k N l=R∧MsAt wr mb ρ C V { s with asleep:=l }∧MsGo V V ρ ρ w wr) (fun y _ _ _ _=>N - (intOf y).toNat)
 case atStart=>exact⟨0,s.asleep,rfl,by omega,Hn.out,HR.out,H.out,MsGo.refl _ _ _⟩
 case round =>
  obtain⟨k,l,rfl,hk,hl,hu,k1,f1⟩:=hrel
  have c8:=mslp_cell k1
  rw [Hv.out] at c8
  have Il:=hide (mth_less mb (.slice ga n gc))
  have Is:=hide (mth_swap mb (.slice ga n gc))
  by_cases hk0:N≤2 * k+1
  ·have e:l=R:=by
    rw [<-hu,downF_fuel (N - k) (N - k+1) k N l (by omega) (by omega),downF_at,if_pos hk0]
   subst e
   have K1:=hide k1
   have F1:=hide f1
   clear k1 f1 hu
   go_wp2_with fail
   go_ret
   exact⟨⟨_,rfl⟩,K1.out,F1.out⟩
  ·rw [downF_fuel (N - k) (N - k - 1+1) k N l (by omega) (by omega),downF_at,if_neg hk0] at hu
   have hj1:=downJ_gt k N l
   have hj2:=downJ_lt k N l hk0
   have L1:Hid (∀ w1,MsAt w1 mb ρ C V { s with asleep:=l }->∀ a b,a<n->b<n->Calls Tryz.prog 292 #[.slice ga n gc,.int .i64 a,.int .i64 b] w1 fun e w'=>e=.returned (.bool (slLess l a b))∧Below w1.heap.size w1 w'):=hide (fun w1 k1 a b ha hb=>by
    have L:=slLess_any (s:={ s with asleep:=l }) w1 k1 a b (by show a<l.length;omega) (by show b<l.length;omega)
    rw [Hv.out] at L
    exact L)
   have S1:Hid (∀ w1,MsAt w1 mb ρ C V { s with asleep:=l }->∀ a b,a<n->b<n->Calls Tryz.prog 293 #[.slice ga n gc,.int .i64 a,.int .i64 b] w1 fun e w'=>e=.returned (.tuple #[])∧MsAt w' mb ρ C V { s with asleep:=slSwap l a b }∧MsGo V V ρ ρ w1 w'):=hide (fun w1 k1 a b ha hb=>by
    have L:=slSwap_any (s:={ s with asleep:=l }) w1 k1 a b (by show a<l.length;omega) (by show b<l.length;omega)
    rw [Hv.out] at L
    exact L)
   have fin:∀ (j:Nat),j=downJ k N l->(slLess l j k=false->l=R)∧(slLess l j k=true->downF (N - j) j N (slSwap l k j)=R):=by
    rintro j rfl
    refine⟨fun x=>?_,fun x=>?_⟩
    ·rw [if_pos x] at hu;exact hu
    ·rw [if_neg (by rw [x];simp)] at hu
     rw [downF_fuel _ (N - k - 1) _ _ _ (by omega) (by omega)];exact hu
   have Fin:=hide fin
   have K1:=hide k1
   have F1:=hide f1
   have iv:=Il.out wr c8
   have ha:2 * (k:Int)+1=((2 * k+1:Nat):Int):=by omega
   have hb:((2 * k+1:Nat):Int)+1=((2 * k+2:Nat):Int):=by omega
   have jj:Hid (downJ k N l=if 2 * k+2<N∧slLess l (2 * k+2) (2 * k+1)=true then 2 * k+2 else 2 * k+1):=hide rfl
   clear k1 f1 hu fin hj1 hj2
   have ha1:k<2 * k+1:=by omega
   have ha2:2 * k+1<N:=by omega
   have ha3:2 * k+2=2 * k+1+1:=rfl
   rw [ha3] at hb jj
   generalize 2 * k+1=a at *
   -- the second half: Less (j,k),Swap
   have hab:a<a+1:=by omega
   generalize a+1=b at hb jj hab
   by_cases h2:b<N
   ·cases h3:slLess l b a with
    | true =>
     have ej:b=downJ k N l:=by rw [jj.out,if_pos ⟨h2,h3⟩]
     have Fj:=hide (Fin.out _ ej)
     have La:Hid (Calls Tryz.prog 292 #[.slice ga n gc,.int .i64 b,.int .i64 a] wr fun e w'=>e=.returned (.bool true)∧Below wr.heap.size wr w'):=hide (by rw [<-h3];exact L1.out wr K1.out b a (by omega) (by omega))
     clear h3 ej jj
     cases h4:slLess l b k with
     | false =>
      have Lc:Hid (∀ w2,MsAt w2 mb ρ C V { s with asleep:=l }->Calls Tryz.prog 292 #[.slice ga n gc,.int .i64 b,.int .i64 k] w2 fun e w'=>e=.returned (.bool false)∧Below w2.heap.size w2 w'):=hide (fun w2 k2=>by rw [<-h4];exact L1.out w2 k2 b k (by omega) (by omega))
      have e:=Fj.out.1 h4
      subst e
      clear h4 Fj L1 Fin
      go_wp2_with (first
       | (go_at_call 292;refine La.out.mono ?_;rintro e w2 ⟨rfl,b2⟩;obtain⟨k2,g2⟩:=K1.out.low b2;have c82:=mslp_cell k2;rw [Hv.out] at c82;have iv2:=Il.out w2 c82;have Lb:=hide (Lc.out w2 k2);have K2:=hide k2;have G2:=hide (F1.out.trans g2);clear k2 g2 b2 La)
       | (go_at_call 292;refine Lb.out.mono ?_;rintro e w3 ⟨rfl,b3⟩;have R3:=hide (K2.out.low b3);clear b3 Lb))
      go_ret
      exact⟨⟨_,rfl⟩,R3.out.1,G2.out.trans R3.out.2⟩
     | true =>
      have Lc:Hid (∀ w2,MsAt w2 mb ρ C V { s with asleep:=l }->Calls Tryz.prog 292 #[.slice ga n gc,.int .i64 b,.int .i64 k] w2 fun e w'=>e=.returned (.bool true)∧Below w2.heap.size w2 w'):=hide (fun w2 k2=>by rw [<-h4];exact L1.out w2 k2 b k (by omega) (by omega))
      have e:=hide (Fj.out.2 h4)
      clear h4 Fj L1 Fin
      go_wp2_with (first
       | (go_at_call 292;refine La.out.mono ?_;rintro e w2 ⟨rfl,b2⟩;obtain⟨k2,g2⟩:=K1.out.low b2;have c82:=mslp_cell k2;rw [Hv.out] at c82;have iv2:=Il.out w2 c82;have Lb:=hide (Lc.out w2 k2);have K2:=hide k2;have G2:=hide (F1.out.trans g2);clear k2 g2 b2 La)
       | (go_at_call 292;refine Lb.out.mono ?_;rintro e w3 ⟨rfl,b3⟩;obtain⟨k3,g3⟩:=K2.out.low b3;have c83:=mslp_cell k3;rw [Hv.out] at c83;have is3:=Is.out w3 c83;have S:=hide (S1.out w3 k3 k b (by omega) (by omega));have G3:=hide (G2.out.trans g3);clear k3 g3 b3 Lb)
       | (go_at_call 293;refine S.out.mono ?_;rintro e w4 ⟨rfl,k4,g4⟩;have K4:=hide k4;have G4:=hide (G3.out.trans g4);clear k4 g4 S))
      go_roundw
      case rel=>exact⟨b,slSwap l k b,rfl,by omega,by rw [swap_len];exact hl,e.out,K4.out,G4.out⟩
      case measure=>simp [intOf];omega
    | false =>
     have ej:a=downJ k N l:=by rw [jj.out,if_neg (fun x=>by rw [h3] at x;cases x.2)]
     have Fj:=hide (Fin.out _ ej)
     have La:Hid (Calls Tryz.prog 292 #[.slice ga n gc,.int .i64 b,.int .i64 a] wr fun e w'=>e=.returned (.bool false)∧Below wr.heap.size wr w'):=hide (by rw [<-h3];exact L1.out wr K1.out b a (by omega) (by omega))
     clear h3 ej jj
     cases h4:slLess l a k with
     | false =>
      have Lc:Hid (∀ w2,MsAt w2 mb ρ C V { s with asleep:=l }->Calls Tryz.prog 292 #[.slice ga n gc,.int .i64 a,.int .i64 k] w2 fun e w'=>e=.returned (.bool false)∧Below w2.heap.size w2 w'):=hide (fun w2 k2=>by rw [<-h4];exact L1.out w2 k2 a k (by omega) (by omega))
      have e:=Fj.out.1 h4
      subst e
      clear h4 Fj L1 Fin
      go_wp2_with (first
       | (go_at_call 292;refine La.out.mono ?_;rintro e w2 ⟨rfl,b2⟩;obtain⟨k2,g2⟩:=K1.out.low b2;have c82:=mslp_cell k2;rw [Hv.out] at c82;have iv2:=Il.out w2 c82;have Lb:=hide (Lc.out w2 k2);have K2:=hide k2;have G2:=hide (F1.out.trans g2);clear k2 g2 b2 La)
       | (go_at_call 292;refine Lb.out.mono ?_;rintro e w3 ⟨rfl,b3⟩;have R3:=hide (K2.out.low b3);clear b3 Lb))
      go_ret
      exact⟨⟨_,rfl⟩,R3.out.1,G2.out.trans R3.out.2⟩
     | true =>
      have Lc:Hid (∀ w2,MsAt w2 mb ρ C V { s with asleep:=l }->Calls Tryz.prog 292 #[.slice ga n gc,.int .i64 a,.int .i64 k] w2 fun e w'=>e=.returned (.bool true)∧Below w2.heap.size w2 w'):=hide (fun w2 k2=>by rw [<-h4];exact L1.out w2 k2 a k (by omega) (by omega))
      have e:=hide (Fj.out.2 h4)
      clear h4 Fj L1 Fin
      go_wp2_with (first
       | (go_at_call 292;refine La.out.mono ?_;rintro e w2 ⟨rfl,b2⟩;obtain⟨k2,g2⟩:=K1.out.low b2;have c82:=mslp_cell k2;rw [Hv.out] at c82;have iv2:=Il.out w2 c82;have Lb:=hide (Lc.out w2 k2);have K2:=hide k2;have G2:=hide (F1.out.trans g2);clear k2 g2 b2 La)
       | (go_at_call 292;refine Lb.out.mono ?_;rintro e w3 ⟨rfl,b3⟩;obtain⟨k3,g3⟩:=K2.out.low b3;have c83:=mslp_cell k3;rw [Hv.out] at c83;have is3:=Is.out w3 c83;have S:=hide (S1.out w3 k3 k a (by omega) (by omega));have G3:=hide (G2.out.trans g3);clear k3 g3 b3 Lb)
       | (go_at_call 293;refine S.out.mono ?_;rintro e w4 ⟨rfl,k4,g4⟩;have K4:=hide k4;have G4:=hide (G3.out.trans g4);clear k4 g4 S))
      go_roundw
      case rel=>exact⟨a,slSwap l k a,rfl,by omega,by rw [swap_len];exact hl,e.out,K4.out,G4.out⟩
      case measure=>simp [intOf];omega
   ·have ej:a=downJ k N l:=by rw [jj.out,if_neg (fun x=>h2 x.1)]
    have Fj:=hide (Fin.out _ ej)
    clear ej jj
    cases h4:slLess l a k with
    | false =>
     have Lc:Hid (∀ w2,MsAt w2 mb ρ C V { s with asleep:=l }->Calls Tryz.prog 292 #[.slice ga n gc,.int .i64 a,.int .i64 k] w2 fun e w'=>e=.returned (.bool false)∧Below w2.heap.size w2 w'):=hide (fun w2 k2=>by rw [<-h4];exact L1.out w2 k2 a k (by omega) (by omega))
     have e:=Fj.out.1 h4
     subst e
     clear h4 Fj L1 Fin
     have Lb:=hide (Lc.out wr K1.out)
     have K2:=K1
     have G2:=F1
     go_wp2_with (first
      | (go_at_call 292;refine Lb.out.mono ?_;rintro e w3 ⟨rfl,b3⟩;have R3:=hide (K2.out.low b3);clear b3 Lb))
     go_ret
     exact⟨⟨_,rfl⟩,R3.out.1,G2.out.trans R3.out.2⟩
    | true =>
     have Lc:Hid (∀ w2,MsAt w2 mb ρ C V { s with asleep:=l }->Calls Tryz.prog 292 #[.slice ga n gc,.int .i64 a,.int .i64 k] w2 fun e w'=>e=.returned (.bool true)∧Below w2.heap.size w2 w'):=hide (fun w2 k2=>by rw [<-h4];exact L1.out w2 k2 a k (by omega) (by omega))
     have e:=hide (Fj.out.2 h4)
     clear h4 Fj L1 Fin
     have Lb:=hide (Lc.out wr K1.out)
     have K2:=K1
     have G2:=F1
     go_wp2_with (first
      | (go_at_call 292;refine Lb.out.mono ?_;rintro e w3 ⟨rfl,b3⟩;obtain⟨k3,g3⟩:=K2.out.low b3;have c83:=mslp_cell k3;rw [Hv.out] at c83;have is3:=Is.out w3 c83;have S:=hide (S1.out w3 k3 k a (by omega) (by omega));have G3:=hide (G2.out.trans g3);clear k3 g3 b3 Lb)
      | (go_at_call 293;refine S.out.mono ?_;rintro e w4 ⟨rfl,k4,g4⟩;have K4:=hide k4;have G4:=hide (G3.out.trans g4);clear k4 g4 S))
     go_roundw
     case rel=>exact⟨a,slSwap l k a,rfl,by omega,by rw [swap_len];exact hl,e.out,K4.out,G4.out⟩
     case measure=>simp [intOf];omega
end
end Go.Proofs.YtnhidaamfnjdjaaGreatDoor
