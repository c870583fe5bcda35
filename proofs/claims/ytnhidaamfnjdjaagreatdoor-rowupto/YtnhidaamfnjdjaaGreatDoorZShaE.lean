import Derived.Test.YtnhidaamfnjdjaaGreatDoorZShaA
namespace Go.Proofs.YtnhidaamfnjdjaaGreatDoor
open Go.RowKit Go.Maps
abbrev ownW (w:World):World:=((w.alloc (.map #[] 0)).alloc (.cells #[.map (some w.heap.size)] 133))
set_option maxRecDepth 20000 in
set_option maxHeartbeats 2000000 in
theorem own_any (w:World) (nb:Nat) (n:PNode) (m:NM) (hb:w.heap[nb]?=some (.cells (nodeCells n m) 115)) (hr:RepE w n.expr m.elo m.ehi m.ve) (hx:m.ehi≤w.heap.size) (ok:UseOk (ownU n)) :
  Calls Tryz.prog 121 #[.pointer (some ⟨nb,0,none⟩)] w fun e w'=>e=.returned (.map (some w.heap.size))∧MapIs w' w.heap.size (ownU n)∧w.grownBy w' none:=by
 have hlt:=lt_of_at hb
 have okh:UseOk (headU n):=UseOk.left ok
 have oke:UseOk (asks n.expr):=UseOk.right ok
 have hmm:=@run_makeMap Tryz.prog
 have G0:Hid (w.grownBy (ownW w) none):=(World.grownBy_alloc w _ none).andThen (World.grownBy_alloc _ _ none) (fun j hj=>by cases hj)
 have M0:Hid (MapIs (ownW w) w.heap.size []):=MapIs.frame (MapIs.made w) (by show (World.alloc _ _).heap[_]?=_;rw [Below.heap_alloc _ _ _ (by simp)])
 have q:∀ i v,(nodeCells n m)[i]?=some v->(ownW w).cell? ⟨nb,i,none⟩=some v:=fun i v h=>by
  refine cell_grown ?_ G0.out (by simp)
  rw [cell_at hb i];exact h
 have c0:=q 0 (.int .i64 n.kind) rfl
 have c2:=q 2 (.string ⟨n.name.toArray⟩) rfl
 have c3:=q 3 (.int .i64 n.nd) rfl
 have c4:=q 4 (.string ⟨n.chan.toArray⟩) rfl
 have c5:=q 5 (.int .i64 n.cd) rfl
 have cc:(ownW w).cell? ⟨w.heap.size+1,0,none⟩=some (.map (some w.heap.size)):=by
  have:=at_new (w.alloc (.map #[] 0)) (.cells #[.map (some w.heap.size)] 133)
  simp only [World.size_alloc] at this
  exact cell_at this 0
 have Q:=hide q;have Hr:=hide hr
 clear q hr hb
 -- the tail: the names that the expr asks
 have tail:Hid (∀ (w1:World),MapIs w1 w.heap.size (headU n)->(ownW w).grownBy w1 (some w.heap.size)->w1.cell? ⟨nb,6,none⟩=some (.pointer m.ve)∧w1.cell? ⟨w.heap.size+1,0,none⟩=some (.map (some w.heap.size)) ∧
   Calls Tryz.prog 119 #[.pointer m.ve,cloU (w.heap.size+1)] w1 fun x w'=>x=.returned (.tuple #[])∧MapIs w' w.heap.size (ownU n)∧w.grownBy w' none∧w'.cell? ⟨w.heap.size+1,0,none⟩=some (.map (some w.heap.size))):=by
  intro w1 h1 g1
  have e1:=cell_grown (Q.out 6 (.pointer m.ve) rfl) g1 (by simp;omega)
  have e2:=cell_grown cc g1 (by simp)
  refine⟨e1,e2,?_⟩
  have g01:w.grownBy w1 none:=G0.out.andThen g1 (fun j hj=>by injection hj with hj;left;omega)
  refine (eachU_any w.heap.size (w.heap.size+1) (by omega) n.expr w1 (headU n) m.elo m.ehi m.ve h1 okh oke e2 (Hr.out.frame (fun k _ y=>g01.block k (by omega) (by simp))) hx (by have:=g01.size;omega)).mono ?_
  rintro x w2 ⟨rfl,h2,k2⟩
  exact⟨rfl,h2,g01.andThen k2 (fun j hj=>by injection hj with hj;left;omega),cell_grown e2 k2 (by simp)⟩
 clear Q Hr
 have okn:n.kind=3∨n.kind=5∨n.kind=14->0≤n.nd∧n.nd<2000:=by
  intro hk
  refine (okh (n.nd,1) ?_).1
  unfold headU
  rcases hk with hk|hk|hk <;> rw [hk] <;> simp
 have okc:n.kind=4∨n.kind=5∨n.kind=14->0≤n.cd∧n.cd<2000:=by
  intro hk
  have:∃ h,(n.cd,h)∈headU n:=by
   unfold headU
   rcases hk with hk|hk|hk <;> rw [hk]
   ·exact⟨4,by simp⟩
   ·exact⟨8,by simp⟩
   ·exact⟨8,by simp⟩
  obtain⟨h,hm⟩:=this
  exact (okh _ hm).1
 by_cases k3:n.kind=3
 ·have hd:=okn (.inl k3)
  have hh:headU n=[]++[(n.nd,1)]:=by unfold headU;rw [k3];rfl
  rw [k3] at c0
  have Hh:=hide hh
  clear hh okn okc
  go_enter Tryz.func121,Tryz.ntmps121
  go_wp2_with fail
  go_region_with (go_at_call 181;refine (useAdd_at _ w.heap.size [] (by exact MapIs.frame M0.out rfl) (fun p hp=>by cases hp) _ n.nd 1 1 rfl hd (by decide)).mono ?_;rintro e w2 ⟨rfl,h2,k2⟩;obtain⟨t1,t2,t3⟩:=tail.out w2 (by rw [Hh.out];exact h2) (grown_drew k2);have T3:=hide t3;clear h2 k2 t3)
  all_goals
   go_wp2_with (go_at_call 119;refine T3.out.mono ?_;rintro e w9 ⟨rfl,h9,g9,c9⟩;have H9:=hide h9;have G9:=hide g9;clear h9 g9)
   go_ret
   exact⟨rfl,H9.out,G9.out⟩
 by_cases k4:n.kind=4
 ·have hd:=okc (.inl k4)
  have hh:headU n=[]++[(n.cd,4)]:=by unfold headU;rw [k4];rfl
  rw [k4] at c0
  have Hh:=hide hh
  clear hh okn okc
  go_enter Tryz.func121,Tryz.ntmps121
  go_wp2_with fail
  go_region_with (go_at_call 181;refine (useAdd_at _ w.heap.size [] (by exact MapIs.frame M0.out rfl) (fun p hp=>by cases hp) _ n.cd 4 4 rfl hd (by decide)).mono ?_;rintro e w2 ⟨rfl,h2,k2⟩;obtain⟨t1,t2,t3⟩:=tail.out w2 (by rw [Hh.out];exact h2) (grown_drew k2);have T3:=hide t3;clear h2 k2 t3)
  all_goals
   go_wp2_with (go_at_call 119;refine T3.out.mono ?_;rintro e w9 ⟨rfl,h9,g9,c9⟩;have H9:=hide h9;have G9:=hide g9;clear h9 g9)
   go_ret
   exact⟨rfl,H9.out,G9.out⟩
 by_cases k5:n.kind=5∨n.kind=14
 ·have hd:=okn (.inr k5)
  have hd':=okc (.inr k5)
  have hh:headU n=([]++[(n.cd,8)])++[(n.nd,1)]:=by unfold headU;rw [if_neg k3,if_neg k4,if_pos k5];rfl
  have Hh:=hide hh
  clear hh okn okc
  have hi1:UseOk ([]++[(n.cd,8)]):=fun p hp=>by
   have:p=(n.cd,8):=by simpa using hp
   subst this;exact⟨hd',by show (8:Nat)<16;decide⟩
  rcases k5 with k5|k5
  all_goals
   rw [k5] at c0
   go_enter Tryz.func121,Tryz.ntmps121
   go_wp2_with fail
   go_region_with (go_at_call 181;refine (useAdd_at _ w.heap.size [] (by exact MapIs.frame M0.out rfl) (fun p hp=>by cases hp) _ n.cd 8 8 rfl hd' (by decide)).mono ?_;rintro e w2 ⟨rfl,h2,k2⟩;have k2':=grown_drew k2;have d2:=cell_grown c2 k2' (by simp;omega);have d3:=cell_grown c3 k2' (by simp;omega);have dc:=cell_grown cc k2' (by simp);have H2:=hide h2;have K2:=hide k2';clear h2 k2 k2')
   all_goals
    go_wp2_with fail
    go_region_with (go_at_call 181;refine (useAdd_at _ w.heap.size _ (by exact MapIs.frame H2.out rfl) hi1 _ n.nd 1 1 rfl hd (by decide)).mono ?_;rintro e w3 ⟨rfl,h3,k3⟩;obtain⟨t1,t2,t3⟩:=tail.out w3 (by rw [Hh.out];exact h3) (K2.out.andThen (grown_drew k3) (fun j hj=>.inr hj));have T3:=hide t3;clear h3 k3 t3)
    all_goals
     go_wp2_with (go_at_call 119;refine T3.out.mono ?_;rintro e w9 ⟨rfl,h9,g9,c9⟩;have H9:=hide h9;have G9:=hide g9;clear h9 g9)
     go_ret
     exact⟨rfl,H9.out,G9.out⟩
 ·have hh:headU n=[]:=by unfold headU;rw [if_neg k3,if_neg k4,if_neg k5]
  have hk5:n.kind≠5:=fun e=>k5 (.inl e)
  have hk14:n.kind≠14:=fun e=>k5 (.inr e)
  obtain⟨t1,t2,t3⟩:=tail.out _ (by rw [hh];exact M0.out) (World.grownBy.refl _ _)
  have T3:=hide t3
  clear hh okn okc t3
  go_enter Tryz.func121,Tryz.ntmps121
  go_wp2_with (go_at_call 119;refine T3.out.mono ?_;rintro e w9 ⟨rfl,h9,g9,c9⟩;have H9:=hide h9;have G9:=hide g9;clear h9 g9)
  go_ret
  exact⟨rfl,H9.out,G9.out⟩
end Go.Proofs.YtnhidaamfnjdjaaGreatDoor
