import Derived.Test.YtnhidaamfnjdjaaGreatDoorZPure
import Derived.Test.YtnhidaamfnjdjaaGreatDoorZNamI
namespace Go.Proofs.YtnhidaamfnjdjaaGreatDoor
open Go.RowKit Go.Maps
theorem law3:Keyed Tryz.prog 3:=int_keyed Tryz.underlying3
theorem zeroUse (w:World):(zeroValue 238).run Tryz.prog w=.ok (.int .i64 0) w:=by kernel_rfl
theorem ownsMap_shrink {w:World} {R:Value->Option (DataW Unit×List MemPlace)} {b n K:Nat} {D:DataW Unit} (h:w.ownsMap Tryz.prog 3 R b n D) (hk:∀ k,has D k=true->∃ a:Int,k=.int .i64 a∧0≤a∧a<(K:Int)):w.ownsMap Tryz.prog 3 R b K D:=by
 obtain⟨ds,e1,e2,e3⟩:=h.entries law3
 obtain⟨es,clock,h1,h2,h3,h4⟩:=h
 refine⟨es,clock,h1,h2,?_,h4⟩
 have hl:es.size=ds.length:=by
  rw [e1] at h4
  injection h4 with h4
  rw [h4,length_sorted];simp
 rw [hl]
 subst e1
 let f:Lit×DataW Unit->Int:=fun p=>match p.1 with | .int _ a=>a|_=>0
 have hf:∀ p∈ds,p.1=.int .i64 (f p)∧0≤f p∧f p<(K:Int):=by
  intro p hp
  obtain⟨a,ha,hb⟩:=hk p.1 (by
   rw [has_eq,List.any_eq_true]
   refine⟨p,hp,?_⟩
   have:=e3 p hp
   cases hq:p.1 <;> simp_all [WideAt.IsKeyLit,Lit.sameKey])
  have:f p=a:=by simp only [f];rw [ha]
  rw [this];exact⟨ha,hb⟩
 have:=few_below K (ds.map f) (by
  rw [List.pairwise_map]
  refine List.Pairwise.imp_of_mem ?_ e2
  intro p q hp hq hne e
  apply hne
  rw [(hf p hp).1,(hf q hq).1,e]) (by
  intro x hx
  obtain⟨p,hp,rfl⟩:=List.mem_map.1 hx
  exact (hf p hp).2)
 simpa using this
def MapFn (w:World) (b:Nat) (U:Int->Nat):Prop :=
 ∃ D:DataW Unit,w.ownsMap Tryz.prog 3 (plainElem Tryz.prog 238) b 2000 D∧(∀ k,D.atKey (.int .i64 k) (.lit (.int .i64 0))=.lit (.int .i64 (U k)))∧(∀ k,has D k=true->∃ a:Int,k=.int .i64 a∧0≤a∧a<2000)
def MapIs (w:World) (b:Nat) (l:List (Int×Nat)):Prop:=MapFn w b (useAt l)
theorem MapIs.lt {w:World} {b:Nat} {l:List (Int×Nat)} (h:MapIs w b l):b<w.heap.size:=by
 obtain⟨D,h,_⟩:=h;exact h.lt
theorem MapIs.frame {w w':World} {b:Nat} {l:List (Int×Nat)} (h:MapIs w b l) (hf:w'.heap[b]?=w.heap[b]?):MapIs w' b l:=by
 obtain⟨D,⟨es,clock,h1,h2⟩,h3⟩:=h
 exact⟨D,⟨es,clock,by rw [hf];exact h1,h2⟩,h3⟩
theorem MapIs.made (w:World):MapIs (w.alloc (.map #[] 0)) w.heap.size [] :=
 ⟨.map [],(World.ownsMap_made w _ _ _).mono (Nat.zero_le _),fun _=>rfl,fun k h=>by simp [has] at h⟩
theorem use_wf {a:Nat} (h:a<16):(Lit.int .i64 (a:Int)).wf=true:=by
 simp [Lit.wf,IntKind.min,IntKind.max,IntKind.bits,IntKind.signed];omega
theorem key_wf {a:Int} (h:0≤a∧a<2000):(Lit.int .i64 a).wf=true:=by
 simp [Lit.wf,IntKind.min,IntKind.max,IntKind.bits,IntKind.signed];omega
theorem mapFn_put {w':World} {b n:Nat} {U U':Int->Nat} {D:DataW Unit} {d:Int} {v:Nat} (hm:IsMap D) (hD:∀ k,D.atKey (.int .i64 k) (.lit (.int .i64 0))=.lit (.int .i64 (U k)))
  (hh:∀ k,has D k=true->∃ a:Int,k=.int .i64 a∧0≤a∧a<2000) (hd:0≤d∧d<2000) (hU:∀ k,U' k=if d=k then v else U k) (h:w'.ownsMap Tryz.prog 3 (plainElem Tryz.prog 238) b n (D.put (.int .i64 d) (.lit (.int .i64 (v:Int))))):MapFn w' b U':=by
 have hk:∀ k,has (D.put (.int .i64 d) (.lit (.int .i64 (v:Int)))) k=true->∃ a:Int,k=.int .i64 a∧0≤a∧a<2000:=by
  intro k hk
  by_cases e:k=.int .i64 d
  ·subst e;exact⟨d,rfl,hd⟩
  ·rw [has_put_other e] at hk;exact hh k hk
 refine⟨_,ownsMap_shrink h hk,?_,hk⟩
 intro k
 rw [hU k]
 by_cases e:d=k
 ·subst e;rw [atKey_put_same hm (show WideAt.IsKeyLit (.int .i64 d) from trivial),if_pos rfl]
 ·rw [atKey_put_other (by intro h;injection h with _ h;exact e h.symm),hD,if_neg e]
theorem mapFn_isMap {w:World} {b n:Nat} {D:DataW Unit} {R:Value->Option (DataW Unit×List MemPlace)} (h:w.ownsMap Tryz.prog 3 R b n D):IsMap D:=by
 obtain⟨ds,e,_⟩:=h.canon law3;exact⟨ds,e⟩
end Go.Proofs.YtnhidaamfnjdjaaGreatDoor
namespace Go.Proofs.YtnhidaamfnjdjaaGreatDoor
open Go.RowKit Go.Maps
set_option maxRecDepth 20000 in
set_option maxHeartbeats 1000000 in
theorem useClash_any (w:World) (a b:Nat) (ha:a<16) (hb:b<16) :
  Calls Tryz.prog 210 #[.int .i64 (a:Int),.int .i64 (b:Int)] w fun e w'=>e=.returned (.bool (clashN a b))∧w'=w:=by
 have h1:=or_nat a b ha hb
 have h2:=and_nat a b ha hb
 have l1:a ||| b<16:=Nat.or_lt_two_pow (n:=4) ha hb
 have l2:a &&& b<16:=Nat.and_lt_two_pow (n:=4) _ hb
 have h3:bits .and .i64 ((a ||| b:Nat):Int) 1=((((a ||| b) &&& 1:Nat)):Int):=and_nat (a ||| b) 1 l1 (by omega)
 have h4:bits .and .i64 ((a &&& b:Nat):Int) 12=((((a &&& b) &&& 12:Nat)):Int):=and_nat (a &&& b) 12 l2 (by omega)
 generalize hC:clashN a b=C
 have HC:=hide hC
 clear hC
 go_enter Tryz.func210,Tryz.ntmps210
 go_wp2
 all_goals go_ret
 all_goals (refine⟨?_,rfl⟩;have hC:=HC.out;clear HC h1 h2)
 ·rename_i h
  have e:clashN a b=false:=by subst h;simp [clashN]
  rw [<-hC,e];rfl
 ·rename_i h0 h
  have e:clashN a b=false:=by
   have:b=0:=by simpa [h0] using h
   subst this;simp [clashN]
  rw [<-hC,e];rfl
 ·rename_i h0 h h5
  have hb0:b≠0:=by simpa using h.2
  have h6:(((a ||| b) &&& 1) == 0)=true:=by rw [Nat.and_one_is_mod,beq_iff_eq];omega
  have ea:(a == 0)=false:=by simpa using h0
  have eb:(b == 0)=false:=by simpa using hb0
  rw [<-hC]
  show Ending.returned (Value.bool _)=_
  refine congrArg (fun x=>Ending.returned (Value.bool x)) ?_
  unfold clashN
  rw [h6,ea,eb]
  cases hz:(a &&& b &&& 12) with
  | zero=>rfl
  | succ n=>rfl
 ·rename_i h0 h h5
  have hb0:b≠0:=by simpa using h.2
  have h6:(((a ||| b) &&& 1) == 0)=false:=by rw [Nat.and_one_is_mod,beq_eq_false_iff_ne];omega
  have ea:(a == 0)=false:=by simpa using h0
  have eb:(b == 0)=false:=by simpa using hb0
  rw [<-hC]
  show Ending.returned (Value.bool _)=_
  refine congrArg (fun x=>Ending.returned (Value.bool x)) ?_
  unfold clashN
  rw [h6,ea,eb]
  rfl
set_option maxRecDepth 20000 in
set_option maxHeartbeats 1000000 in
theorem useAdd_any (w:World) (b:Nat) (l:List (Int×Nat)) (h:MapIs w b l) (ok:UseOk l) (s:ByteArray) (d:Int) (how:Nat) (hd:0≤d∧d<2000) (hh:how<16) :
  Calls Tryz.prog 181 #[.map (some b),.agg #[.string s,.int .i64 d],.int .i64 (how:Int)] w fun e w'=>e=.returned (.tuple #[])∧MapIs w' b (l++[(d,how)])∧w.grownBy w' (some b):=by
 obtain⟨D,ho,hD,hk⟩:=h
 have hu:=useAt_lt l ok d
 have h1:=or_nat (useAt l d) how hu hh
 have hkey:=keyOf_int_mk Tryz.underlying3 (key_wf hd)
 have HD:=hide hD;have HK:=hide hk
 clear hD hk
 have ho':=ho.alloc (.cells #[.string s,.int .i64 d] 111)
 have Ho:=hide ho'
 have him:IsMap D:=by obtain⟨ds,e,_⟩:=ho.canon law3;exact⟨ds,e⟩
 clear ho ho'
 go_enter Tryz.func181,Tryz.ntmps181
 go_wp2_with (first
  | (at_lookup;refine wpList_lookup_own_int _ rfl _ _ 133 rfl 3 238 .i64 law3 Tryz.underlying133 Tryz.underlying238 (zeroUse _) b 2000 D rfl Ho.out _ _ rfl hkey ?_;intro c hc hwc;rw [HD.out d] at hc;injection hc with hc;injection hc with _ hc;have hc:=hc.symm;subst hc;go_frame)
  | (at_mapUpdate;refine wpList_mapUpdate_own _ rfl _ _ _ 133 rfl 3 238 law3 Tryz.underlying133 _ b 2000 D rfl Ho.out (by decide) _ _ _ rfl rfl hkey _ [] (plainElem_int Tryz.underlying238 (use_wf (Nat.or_lt_two_pow (n:=4) hu hh))) ?_;intro w2 hout2 hg2;go_frame)
  | go_in)
 go_end0
 exact⟨rfl,mapFn_put (v:=useAt l d ||| how) him HD.out HK.out hd (fun k=>by rw [useAt_append,useAt_one];split <;> simp_all) hout2,(World.grownBy_alloc w _ (some b)).andThen hg2 (fun j hj=>.inr hj)⟩
end Go.Proofs.YtnhidaamfnjdjaaGreatDoor
namespace Go.Proofs.YtnhidaamfnjdjaaGreatDoor
open Go.RowKit Go.Maps
theorem same_self (x:Int):(Lit.int .i64 x).sameKey (.int .i64 x)=true:=by simp [Lit.sameKey]
set_option maxRecDepth 20000 in
set_option maxHeartbeats 1000000 in
theorem useJoin_any (w:World) (b b':Nat) (l l':List (Int×Nat)) (h:MapIs w b l) (h':MapIs w b' l') (hne:b≠b') (ok:UseOk l) (ok':UseOk l') :
  Calls Tryz.prog 122 #[.map (some b),.map (some b')] w fun e w'=>e=.returned (.tuple #[])∧MapIs w' b (l++l')∧w.grownBy w' (some b):=by
 obtain⟨D',ho',hD',hk'⟩:=h'
 have hbl:=h.lt
 have hbl':=ho'.lt
 have H:=hide h;have HD':=hide hD';have HK':=hide hk'
 have Ho:=hide ho'
 clear h ho' hD' hk'
 go_enter Tryz.func122,Tryz.ntmps122
 go_wp2_with (first
  | (at_range;refine wpList_range_own _ rfl _ 133 rfl 3 238 law3 Tryz.underlying133 _ b' 2000 _ rfl Ho.out ?_;intro w0 hrg0 hg0 hs0)
  | go_in)
 go_frame
 go_loopw [4,5] (fun _ _ wr=>∃ (left:Lit->Bool) (cnt:Nat),wr.ranges Tryz.prog 3 (plainElem Tryz.prog 238) b' w.heap.size 2000 D' left cnt ∧
   MapFn wr b (fun k=>useAt l k ||| if left (.int .i64 k)=true then 0 else useAt l' k)∧w.grownBy wr (some b))
  (fun _ _ wr=>wr.rangeLeft b' w.heap.size)
 case atStart =>
  refine⟨_,_,hrg0,?_,hg0.but _⟩
  have h0:(fun k=>useAt l k ||| if has D' (.int .i64 k)=true then 0 else useAt l' k)=useAt l:=by
   funext k
   split
   ·simp
   ·rename_i hf
    have:=HD'.out k
    rw [atKey_of_not_has (by simpa using hf)] at this
    injection this with this;injection this with _ this
    have:useAt l' k=0:=by omega
    rw [this];simp
  rw [h0]
  exact MapIs.frame H.out (hg0.block b hbl (by simp))
 case round =>
  obtain⟨left,cnt,hrg,hmf,hgr⟩:=hrel
  have Hmf:=hide hmf;have Hgr:=hide hgr;have Hrg:=hide hrg
  clear hmf hgr hrg
  go_wp2_with (first
   | (at_next;refine wpList_next_ranges_ii _ rfl _ rfl 3 238 .i64 .i64 law3 Tryz.underlying3 Tryz.underlying238 b' w.heap.size 2000 _ _ _ rfl Hrg.out ?_ ?_)
   | go_in)
  ·intro hc0 hl0
   go_wp2
   go_end0
   refine⟨rfl,?_,Hgr.out⟩
   have:=Hmf.out
   have e:(fun k=>useAt l k ||| if left (.int .i64 k)=true then 0 else useAt l' k)=useAt (l++l'):=by
    funext k
    rw [hl0,useAt_append];simp
   rw [e] at this
   exact this
  ·intro x c w1 cnt1 hwx hwc hlx hat hrg1 hlt hg1 hs1 hen
   have hc:c=((useAt l' x:Nat):Int):=by
    have:=(hat (.lit (.int .i64 0))).symm.trans (HD'.out x)
    injection this with this;injection this with _ this
   subst hc
   have hx:0≤x∧x<2000:=by
    obtain⟨a,e,ha⟩:=HK'.out _ (has_true_of_atKey hat)
    injection e with _ e;subst e;exact ha
   obtain⟨D,ho,hD,hk⟩:=Hmf.out
   have ho1:=ho.kept hg1 (by simp;omega)
   have him:=mapFn_isMap ho
   have hu:=useAt_lt l ok x
   have hu':=useAt_lt l' ok' x
   have hDx:=hD x
   simp only [hlx,if_true,Nat.or_zero] at hDx
   have h1:=or_nat (useAt l x) (useAt l' x) hu hu'
   have hkey:=keyOf_int_mk Tryz.underlying3 hwx
   have Ho1:=hide ho1;have HD:=hide hD;have HK:=hide hk;have HDx:=hide hDx;have Hlt:=hide hlt;have Hrg1:=hide hrg1;have Hg1:=hide hg1
   clear ho ho1 hD hk hDx hlt hrg1 hg1 hat
   go_wp2_with (first
    | (at_lookup;refine wpList_lookup_own_int _ rfl _ _ 133 rfl 3 238 .i64 law3 Tryz.underlying133 Tryz.underlying238 (zeroUse _) b 2000 D rfl Ho1.out _ _ rfl hkey ?_;intro c hc hwc;rw [HDx.out] at hc;injection hc with hc;injection hc with _ hc;have hc:=hc.symm;subst hc;go_frame)
    | (at_mapUpdate;refine wpList_mapUpdate_own _ rfl _ _ _ 133 rfl 3 238 law3 Tryz.underlying133 _ b 2000 D rfl Ho1.out (by decide) _ _ _ rfl rfl hkey _ [] (plainElem_int Tryz.underlying238 (use_wf (Nat.or_lt_two_pow (n:=4) hu hu'))) ?_;intro w2 hout2 hg2;go_frame)
    | go_in)
   have hrg2:=Hrg1.out.kept hg2 (by simp;omega) (by simp;omega)
   go_roundw
   case rel =>
    refine⟨_,cnt1,hrg2,mapFn_put (v:=useAt l x ||| useAt l' x) him HD.out HK.out hx ?_ hout2,(Hgr.out.andThen Hg1.out (fun j hj=>by injection hj with hj;left;omega)).andThen hg2 (fun j hj=>.inr hj)⟩
    intro k
    by_cases e:x=k
    ·subst e;simp [same_self]
    ·rw [if_neg e]
     have:(Lit.int .i64 k).sameKey (.int .i64 x)=false:=sameKey_ne (by intro h;injection h with _ h;exact e h.symm)
     simp [this]
   case measure=>rw [hrg2.left_eq,Hrg.out.left_eq];exact Hlt.out
set_option maxRecDepth 20000 in
set_option maxHeartbeats 1000000 in
theorem usesClash_any (w:World) (b b':Nat) (l l':List (Int×Nat)) (h:MapIs w b l) (h':MapIs w b' l') (ok:UseOk l) (ok':UseOk l') :
  Calls Tryz.prog 183 #[.map (some b),.map (some b')] w fun e w'=>e=.returned (.bool (clashL l l'))∧w.grownBy w' none:=by
 obtain⟨D,ho,hD,hk⟩:=h
 obtain⟨D',ho',hD',hk'⟩:=h'
 have hbl:=ho.lt
 have hbl':=ho'.lt
 generalize hC:clashL l l'=C
 have HC:=hide hC
 have HD':=hide hD';have HK':=hide hk';have Ho':=hide ho'
 have HD:=hide hD;have HK:=hide hk;have Ho:=hide ho
 clear ho' hD' hk' ho hD hk hC
 go_enter Tryz.func183,Tryz.ntmps183
 go_wp2_with (first
  | (at_range;refine wpList_range_own _ rfl _ 133 rfl 3 238 law3 Tryz.underlying133 _ b 2000 _ rfl Ho.out ?_;intro w0 hrg0 hg0 hs0)
  | go_in)
 go_frame
 go_loopw [5,6] (fun _ _ wr=>∃ (left:Lit->Bool) (cnt:Nat),wr.ranges Tryz.prog 3 (plainElem Tryz.prog 238) b w.heap.size 2000 D left cnt ∧
   (∀ k,left (.int .i64 k)=false->clashN (useAt l k) (useAt l' k)=false)∧w.grownBy wr none∧w.heap.size<wr.heap.size)
  (fun _ _ wr=>wr.rangeLeft b w.heap.size)
 case atStart =>
  refine⟨_,_,hrg0,?_,hg0,by omega⟩
  intro k hf
  have:=HD.out k
  rw [atKey_of_not_has hf] at this
  injection this with this;injection this with _ this
  have:useAt l k=0:=by omega
  rw [this];simp [clashN]
 case round =>
  obtain⟨left,cnt,hrg,hmf,hgr,hzz⟩:=hrel
  have Hmf:=hide hmf;have Hgr:=hide hgr;have Hrg:=hide hrg
  clear hmf hgr hrg
  go_wp2_with (first
   | (at_next;refine wpList_next_ranges_ii _ rfl _ rfl 3 238 .i64 .i64 law3 Tryz.underlying3 Tryz.underlying238 b w.heap.size 2000 _ _ _ rfl Hrg.out ?_ ?_)
   | go_in)
  ·intro hc0 hl0
   go_wp2
   go_ret
   refine⟨?_,Hgr.out⟩
   have e:clashL l l'=false:=by
    cases hx:clashL l l' with
    | false=>rfl
    | true =>
     obtain⟨k,hk⟩:=(clashL_iff l l').1 hx
     rw [Hmf.out k (hl0 _)] at hk;cases hk
   rw [<-HC.out,e];rfl
  ·intro x c w1 cnt1 hwx hwc hlx hat hrg1 hlt hg1 hs1 hen
   have hc:c=((useAt l x:Nat):Int):=by
    have:=(hat (.lit (.int .i64 0))).symm.trans (HD.out x)
    injection this with this;injection this with _ this
   subst hc
   have hu:=useAt_lt l ok x
   have hu':=useAt_lt l' ok' x
   have hkey:=keyOf_int_mk Tryz.underlying3 hwx
   have hg2:=(Hgr.out.andThen hg1 (fun j hj=>by injection hj with hj;left;omega))
   have ho2:=Ho'.out.kept hg2 (by simp)
   have Ho2:=hide ho2;have HDx:=hide (HD'.out x);have Hlt:=hide hlt;have Hrg1:=hide hrg1;have Hg2:=hide hg2
   clear ho2 hlt hrg1 hg1 hat hg2
   cases hcl:clashN (useAt l x) (useAt l' x) with
   | true =>
    go_wp2_with (first
     | (at_lookup;refine wpList_lookup_own_int _ rfl _ _ 133 rfl 3 238 .i64 law3 Tryz.underlying133 Tryz.underlying238 (zeroUse _) b' 2000 D' rfl Ho2.out _ _ rfl hkey ?_;intro c hc hwc;rw [HDx.out] at hc;injection hc with hc;injection hc with _ hc;have hc:=hc.symm;subst hc;go_frame)
     | (go_at_call 210;refine (useClash_any _ _ _ hu hu').mono ?_;rw [hcl];rintro e wx ⟨rfl,hw⟩;have hw:=hw.symm;subst hw)
     | go_in)
    go_ret
    refine⟨?_,Hg2.out⟩
    have e:clashL l l'=true:=(clashL_iff l l').2 ⟨x,hcl⟩
    rw [<-HC.out,e];rfl
   | false =>
    go_wp2_with (first
     | (at_lookup;refine wpList_lookup_own_int _ rfl _ _ 133 rfl 3 238 .i64 law3 Tryz.underlying133 Tryz.underlying238 (zeroUse _) b' 2000 D' rfl Ho2.out _ _ rfl hkey ?_;intro c hc hwc;rw [HDx.out] at hc;injection hc with hc;injection hc with _ hc;have hc:=hc.symm;subst hc;go_frame)
     | (go_at_call 210;refine (useClash_any _ _ _ hu hu').mono ?_;rw [hcl];rintro e wx ⟨rfl,hw⟩;have hw:=hw.symm;subst hw)
     | go_in)
    go_roundw
    case rel =>
     refine⟨_,cnt1,Hrg1.out,?_,Hg2.out,by omega⟩
     intro k hk
     by_cases e:x=k
     ·subst e;exact hcl
     ·have:(Lit.int .i64 k).sameKey (.int .i64 x)=false:=sameKey_ne (by intro h;injection h with _ h;exact e h.symm)
      simp [this] at hk
      exact Hmf.out k hk
    case measure=>rw [Hrg1.out.left_eq,Hrg.out.left_eq];exact Hlt.out
end Go.Proofs.YtnhidaamfnjdjaaGreatDoor
namespace Go.Proofs.YtnhidaamfnjdjaaGreatDoor
open Go.RowKit Go.Maps
theorem MapIs.kept {w w':World} {b:Nat} {row:Option Nat} {l:List (Int×Nat)} (h:MapIs w b l) (hg:w.grownBy w' row) (hne:some b≠row):MapIs w' b l:=MapIs.frame h (hg.block b h.lt hne)
theorem cell_grown {w w':World} {row:Option Nat} {b i:Nat} {v:Value} (h:w.cell? ⟨b,i,none⟩=some v) (hg:w.grownBy w' row) (hne:some b≠row):w'.cell? ⟨b,i,none⟩=some v:=cell_of_block h (hg.block b (cell_lt h) hne)
theorem grown_drew {w w':World} {row:Option Nat} (h:w.drew.grownBy w' row):w.grownBy w' row:=⟨h.os,h.tape,h.output,h.size,h.block⟩
theorem useAdd_at (w:World) (b:Nat) (l:List (Int×Nat)) (h:MapIs w b l) (ok:UseOk l) (s:ByteArray) (d:Int) (how:Nat) (z:Int) (hz:z=(how:Int)) (hd:0≤d∧d<2000) (hh:how<16) :
  Calls Tryz.prog 181 #[.map (some b),.agg #[.string s,.int .i64 d],.int .i64 z] w fun e w'=>e=.returned (.tuple #[])∧MapIs w' b (l++[(d,how)])∧w.grownBy w' (some b):=by
 subst hz;exact useAdd_any w b l h ok s d how hd hh
set_option maxRecDepth 20000 in
set_option maxHeartbeats 1000000 in
theorem closureU_any (w:World) (b cb a:Nat) (l:List (Int×Nat)) (h:MapIs w b l) (ok:UseOk l) (hc:w.cell? ⟨cb,0,none⟩=some (.map (some b))) (s:ByteArray) (d:Int) (hd:0≤d∧d<2000) (h2:w.cell? ⟨a,2,none⟩=some (.string s)) (h3:w.cell? ⟨a,3,none⟩=some (.int .i64 d)) :
  Calls Tryz.prog 182 #[.pointer (some ⟨a,2,none⟩),.pointer (some ⟨cb,0,none⟩)] w fun e w'=>e=.returned (.tuple #[])∧MapIs w' b (l++[(d,2)])∧w.grownBy w' (some b):=by
 have H:=hide h
 clear h
 go_enter Tryz.func182,Tryz.ntmps182
 go_wp2_with fail
 go_region_with (go_at_call 181;refine (useAdd_at _ b l (by exact MapIs.frame H.out rfl) ok s d 2 2 rfl hd (by decide)).mono ?_;rintro e w2 ⟨rfl,h2,k2⟩;have Hr:=hide h2;have K2:=hide k2;clear h2 k2)
 all_goals
  go_wp2
  go_end0
  exact⟨rfl,Hr.out,grown_drew K2.out⟩
end Go.Proofs.YtnhidaamfnjdjaaGreatDoor
namespace Go.Proofs.YtnhidaamfnjdjaaGreatDoor
open Go.RowKit Go.Maps
abbrev cloU (cb:Nat):Value:=.func (.func 182) #[] #[.pointer (some ⟨cb,0,none⟩)]
theorem UseOk.left {l l':List (Int×Nat)} (h:UseOk (l++l')):UseOk l:=fun p hp=>h p (List.mem_append.2 (.inl hp))
theorem UseOk.right {l l':List (Int×Nat)} (h:UseOk (l++l')):UseOk l':=fun p hp=>h p (List.mem_append.2 (.inr hp))
set_option maxRecDepth 20000 in
set_option maxHeartbeats 1000000 in
theorem eachU_any (b cb:Nat) (hne:cb≠b):∀ (e:PE) (w:World) (l:List (Int×Nat)) (lo hi:Nat) (v:Option Addr),MapIs w b l->UseOk l->UseOk (asks e)->w.cell? ⟨cb,0,none⟩=some (.map (some b))->RepE w e lo hi v->hi≤b->hi≤w.heap.size ->
  Calls Tryz.prog 119 #[.pointer v,cloU cb] w fun x w'=>x=.returned (.tuple #[])∧MapIs w' b (l++asks e)∧w.grownBy w' (some b):=by
 intro e
 induction e with
 | nil =>
  intro w l lo hi v h ok oke hc hr h1 h2
  have H:=hide h
  obtain⟨_,rfl⟩:=hr
  clear h hc
  go_enter Tryz.func119,Tryz.ntmps119
  go_wp2_with fail
  exact bodyPost_ret (v:=.tuple #[]) (by simp [results,Tryz.results119,go_sem]) rfl ⟨rfl,by simpa [asks] using H.out,World.grownBy.refl _ _⟩
 | num n =>
  intro w l lo hi v h ok oke hc hr h1 h2
  have H:=hide h
  obtain⟨a,l1,l2,rfl,hb⟩:=hr
  have c0:w.cell? ⟨a,0,none⟩=some (.int .i64 0):=cell_at hb 0
  clear h hc hb
  go_enter Tryz.func119,Tryz.ntmps119
  go_wp2_with fail
  go_end0
  exact⟨rfl,by simpa [asks] using H.out,World.grownBy.refl _ _⟩
 | var n d =>
  intro w l lo hi v h ok oke hc hr h1 h2
  obtain⟨a,l1,l2,rfl,hb⟩:=hr
  have c0:w.cell? ⟨a,0,none⟩=some (.int .i64 1):=cell_at hb 0
  have c2:w.cell? ⟨a,2,none⟩=some (.string ⟨n.toArray⟩):=cell_at hb 2
  have c3:w.cell? ⟨a,3,none⟩=some (.int .i64 d):=cell_at hb 3
  have hd:=(oke (d,2) (by simp [asks])).1
  have H:=hide h
  clear h hb
  have C2:=hide c2;have C3:=hide c3;have Hc:=hide hc
  clear c2 c3 hc
  go_enter Tryz.func119,Tryz.ntmps119
  go_wp2_with (go_at_call 182;refine (closureU_any _ b cb a l H.out ok Hc.out _ d hd C2.out C3.out).mono ?_;rintro x w2 ⟨rfl,h2,k2⟩;have Hr:=hide h2;have K2:=hide k2;clear h2 k2)
  go_end0
  exact⟨rfl,Hr.out,K2.out⟩
 | pair op x y iha ihb =>
  intro w l lo hi v h ok oke hc hr h1 h2
  obtain⟨c,m1,m2,vl,vr,l1,l2,l3,l4,rfl,hb,ra,rb⟩:=hr
  have c0:w.cell? ⟨c,0,none⟩=some (.int .i64 2):=cell_at hb 0
  have c5:w.cell? ⟨c,5,none⟩=some (.pointer vl):=cell_at hb 5
  have hok:UseOk (asks x++asks y):=oke
  have H:=hide h;have Hc:=hide hc;have Hb:=hide hb;have Ra:=hide ra;have Rb:=hide rb;have Ia:=hide iha;have Ib:=hide ihb
  clear h hc hb ra rb iha ihb
  go_enter Tryz.func119,Tryz.ntmps119
  go_wp2_with fail
  refine (Ia.out w l lo m1 vl H.out ok hok.left Hc.out Ra.out (by omega) (by omega)).mono ?_
  rintro x w2 ⟨rfl,h2',k2⟩
  have d6:w2.cell? ⟨c,6,none⟩=some (.pointer vr):=cell_grown (cell_at Hb.out 6) k2 (by simp;omega)
  have hc2:=cell_grown Hc.out k2 (by simpa using hne)
  have rb2:RepE w2 y m1 m2 vr:=Rb.out.frame (fun k x y=>k2.block k (by omega) (by simp;omega))
  have s2:=k2.size
  have H2:=hide h2';have K2:=hide k2;have Rb2:=hide rb2;have Hc2:=hide hc2
  clear h2' k2 rb2 hc2
  go_wp2_with fail
  refine (Ib.out w2 _ m1 m2 vr H2.out (ok.append hok.left) hok.right Hc2.out Rb2.out (by omega) (by omega)).mono ?_
  rintro x w3 ⟨rfl,h3',k3⟩
  have H3:=hide h3';have K3:=hide k3
  clear h3' k3
  go_wp2
  go_end0
  refine⟨rfl,?_,K2.out.andThen K3.out (fun j hj=>.inr hj)⟩
  have:=H3.out
  rw [List.append_assoc] at this
  exact this
end Go.Proofs.YtnhidaamfnjdjaaGreatDoor
