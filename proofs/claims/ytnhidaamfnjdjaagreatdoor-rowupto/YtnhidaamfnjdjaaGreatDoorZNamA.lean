import Derived.Test.YtnhidaamfnjdjaaGreatDoorZHeapT
import Derived.Test.YtnhidaamfnjdjaaGreatDoorZParsA
import Derived.Test.YtnhidaamfnjdjaaGreatDoorZPure
import Derived.Deep.QuietTactic
import Derived.BigQuiet
namespace Go.Proofs.YtnhidaamfnjdjaaGreatDoor
open Go.RowKit
def DC.cells (d:DC):List Value:=[.string ⟨d.text.toArray⟩,.int .i64 d.kind,.int .i64 d.num]
def flatD (l:List DC):List Value:=l.flatMap DC.cells
theorem flatD_len (l:List DC):(flatD l).length=l.length * 3:=by
 induction l with
 | nil=>rfl
 | cons a l ih=>simp only [flatD,List.flatMap_cons,List.length_append,List.length_cons] at ih ⊢;rw [ih];simp [DC.cells];omega
theorem flatD_get (l:List DC) (k:Nat) (hk:k<l.length):(flatD l)[k * 3]?=some (.string ⟨l[k].text.toArray⟩)∧(flatD l)[k * 3+1]?=some (.int .i64 l[k].kind)∧(flatD l)[k * 3+2]?=some (.int .i64 l[k].num):=by
 induction l generalizing k with
 | nil=>simp at hk
 | cons a l ih =>
  cases k with
  | zero=>simp [flatD,DC.cells]
  | succ k =>
   have:=ih k (by simpa using hk)
   have e0:(k+1) * 3=3+k * 3:=by omega
   have hc:(DC.cells a).length=3:=rfl
   simp only [flatD,List.flatMap_cons,e0,Nat.add_assoc,List.getElem_cons_succ] at this ⊢
   refine⟨?_,?_,?_⟩
   ·rw [List.getElem?_append_right (by rw [hc];omega),hc];simpa using this.1
   ·rw [List.getElem?_append_right (by rw [hc];omega),hc,show 3+(k * 3+1) - 3=k * 3+1 by omega];exact this.2.1
   ·rw [List.getElem?_append_right (by rw [hc];omega),hc,show 3+(k * 3+2) - 3=k * 3+2 by omega];exact this.2.2
structure RvAt (n0:Nat) (w:World) (vb:Nat) (hv:Value) (r:RV):Prop where
 cells:w.heap[vb]?=some (.cells #[hv,.int .i64 r.next,.int .i64 r.line] 127)
 own:w.ownsRow 0 124 3 hv r.hold.length (flatD r.hold)
 ge:n0≤vb
 hge:∀ g,hv.ownBlock=some g->n0≤g∧g≠vb
theorem RvAt.frame {n0:Nat} {w w':World} {vb:Nat} {hv:Value} {r:RV} (h:RvAt n0 w vb hv r) (h1:w'.heap[vb]?=w.heap[vb]?) (h2:∀ g,hv.ownBlock=some g->w'.heap[g]?=w.heap[g]?):RvAt n0 w' vb hv r :=
 ⟨by rw [h1];exact h.cells,ownsRow_frame h.own h2,h.ge,h.hge⟩
set_option maxHeartbeats 1000000 in
theorem nearest_any (n0:Nat) (w:World) (vb:Nat) (hv:Value) (r:RV) (h:RvAt n0 w vb hv r) (t:Bs) (hpos:0<r.hold.length) (hlim:r.hold.length≤100000) :
  Calls Tryz.prog 180 #[.pointer (some ⟨vb,0,none⟩),.string ⟨t.toArray⟩] w fun e w'=>e=.returned (.agg #[.string ⟨(nearestF r.hold t).text.toArray⟩,.int .i64 (nearestF r.hold t).kind,.int .i64 (nearestF r.hold t).num])∧Below w.heap.size w w':=by
 have hlv:=lt_of_at h.cells
 rcases h.own.2 with ⟨_,h0⟩|⟨g,cap,cur,rfl,_,hg,hc1,hc2,hc3,hc4⟩
 ·omega
 have hlg:=lt_of_at hg
 have hcell:∀ k (hk:k<r.hold.length),w.cell? ⟨g,k * 3,none⟩=some (.string ⟨r.hold[k].text.toArray⟩)∧w.cell? ⟨g,k * 3+1,none⟩=some (.int .i64 r.hold[k].kind)∧w.cell? ⟨g,k * 3+2,none⟩=some (.int .i64 r.hold[k].num):=by
  intro k hk
  have:=flatD_get r.hold k hk
  exact⟨ownsRow_cell hg hc4 this.1,ownsRow_cell hg hc4 this.2.1,ownsRow_cell hg hc4 this.2.2⟩
 have cv0:∀ o,(w.alloc o).cell? ⟨vb,0,none⟩=some (.slice (some ⟨g,0,none⟩) r.hold.length cap):=fun o=>cell_at (at_alloc h.cells o) 0
 have Hcell:Hid (∀ (o:Obj) k (hk:k<r.hold.length),(w.alloc o).cell? ⟨g,k * 3,none⟩=some (.string ⟨r.hold[k].text.toArray⟩)∧(w.alloc o).cell? ⟨g,k * 3+1,none⟩=some (.int .i64 r.hold[k].kind)∧(w.alloc o).cell? ⟨g,k * 3+2,none⟩=some (.int .i64 r.hold[k].num)):=by
  intro o k hk
  have h1:∀ i,(w.alloc o).cell? ⟨g,i,none⟩=w.cell? ⟨g,i,none⟩:=fun i=>by rw [cell_at (at_alloc hg o),cell_at hg]
  rw [h1,h1,h1];exact hcell k hk
 generalize hN:nearestF r.hold t=N
 have HN:=hide hN
 clear h hg hc4 hcell hN
 go_enter Tryz.func180,Tryz.ntmps180
 go_wp2_with fail
 go_loop [5] (fun i=>∃ k:Nat,k≤r.hold.length∧i=.int .i64 ((k:Int) - 1)∧∀ j,k≤j->(hj:j<r.hold.length)->(r.hold[j].text == t)=false) (fun i=>(intOf i+1).toNat)
 case atStart=>exact⟨r.hold.length,Nat.le_refl _,rfl,fun j h1 h2=>by omega⟩
 case round =>
  obtain⟨k,hk,rfl,hall⟩:=hrel
  have Hall:=hide hall
  clear hall
  cases k with
  | zero =>
   have e1:N=⟨[],0,0⟩:=by rw [<-HN.out];exact nearest_none _ _ (fun j hj=>Hall.out j (Nat.zero_le _) hj)
   go_wp2_with fail
   subst e1
   refine bodyPost_ret (v:=.agg #[.string ⟨#[]⟩,.int .i64 0,.int .i64 0]) (by simp [results,Tryz.results180,go_sem]) rfl ⟨rfl,(Below.refl _ _).alloc (Nat.le_refl _) _⟩
  | succ k =>
   have hk1:k<r.hold.length:=by omega
   have e2:((k+1:Nat):Int) - 1=(k:Int):=by omega
   rw [e2]
   have hkl:(k:Int)<(r.hold.length:Int):=by omega
   obtain⟨d0,d1,d2⟩:=Hcell.out (.cells #[.string ⟨#[]⟩,.int .i64 0,.int .i64 0] 124) k hk1
   by_cases hf:(r.hold[k].text == t)=true
   ·have e1:N=r.hold[k]:=by rw [<-HN.out];exact nearest_take _ _ k hk1 hf (fun j h1 h2=>Hall.out j (by omega) h2)
    subst e1
    go_wp2_with fail
    refine bodyPost_ret (v:=.agg #[.string ⟨r.hold[k].text.toArray⟩,.int .i64 r.hold[k].kind,.int .i64 r.hold[k].num]) (by simp [results,Tryz.results180,go_sem]) rfl ⟨rfl,?_⟩
    exact (Below.refl _ _).alloc (Nat.le_refl _) _
   ·have hf':(r.hold[k].text == t)=false:=by simpa using hf
    go_wp2_with fail
    go_round
    case rel =>
     refine⟨k,by omega,rfl,fun j h1 h2=>?_⟩
     by_cases e:j=k
     ·subst e;exact hf'
     ·exact Hall.out j (by omega) h2
    case measure=>simp [intOf]
end Go.Proofs.YtnhidaamfnjdjaaGreatDoor
namespace Go.Proofs.YtnhidaamfnjdjaaGreatDoor
open Go.RowKit
structure Kept2 (a b:Nat) (w w':World):Prop where
 os:w'.os=w.os
 tape:w'.tape=w.tape
 output:w'.output=w.output
 size:w.heap.size≤w'.heap.size
 block:∀ k,k<w.heap.size->k≠a->k≠b->w'.heap[k]?=w.heap[k]?
theorem Kept2.below {a b:Nat} {w w':World} (h:Below w.heap.size w w'):Kept2 a b w w':=⟨h.os,h.tape,h.output,h.size,fun k hk _ _=>h.block k hk⟩
theorem Kept2.setA {a b:Nat} {w w':World} (h:Kept2 a b w w') (i:Nat) (v:Value):Kept2 a b w (w'.setCell ⟨a,i,none⟩ v) :=
 ⟨h.os,h.tape,h.output,by simpa [World.setCell] using h.size,fun k hk h1 h2=>by rw [Below.heap_setCell _ _ _ _ (by simpa using h1)];exact h.block k hk h1 h2⟩
theorem Kept2.setB {a b:Nat} {w w':World} (h:Kept2 a b w w') (i:Nat) (v:Value):Kept2 a b w (w'.setCell ⟨b,i,none⟩ v) :=
 ⟨h.os,h.tape,h.output,by simpa [World.setCell] using h.size,fun k hk h1 h2=>by rw [Below.heap_setCell _ _ _ _ (by simpa using h2)];exact h.block k hk h1 h2⟩
theorem set_same {cs:Array Value} {i:Nat} {v:Value} (h:cs[i]?=some v):cs.setIfInBounds i v=cs:=by
 apply Array.ext_getElem?
 intro j
 rw [Array.getElem?_setIfInBounds]
 split
 ·rename_i e;subst e
  split
  ·exact h.symm
  ·rename_i h2;rw [Array.getElem?_eq_none (by omega)]
 ·rfl
set_option maxHeartbeats 1000000 in
theorem resolve_any (n0:Nat) (w:World) (vb:Nat) (hv:Value) (r:RV) (h:RvAt n0 w vb hv r) (hpos:0<r.hold.length) (hlim:r.hold.length≤100000)
  (a o:Nat) (cs:Array Value) (ta:TypeId) (ha:w.heap[a]?=some (.cells cs ta)) (t:Bs) (d:Int) (h1:cs[o]?=some (.string ⟨t.toArray⟩)) (h2:cs[o+1]?=some (.int .i64 d)) (hav:a≠vb) (hah:hv.ownBlock≠some a) (must line:Int) :
  Calls Tryz.prog 118 #[.pointer (some ⟨vb,0,none⟩),.pointer (some ⟨a,o,none⟩),.int .i64 must,.int .i64 line] w fun e w'=>e=.returned (.tuple #[])∧RvAt n0 w' vb hv (resolveF r t d must line).1 ∧
   w'.heap[a]?=some (.cells (cs.setIfInBounds (o+1) (.int .i64 (resolveF r t d must line).2)) ta)∧Kept2 a vb w w':=by
 have hlv:=lt_of_at h.cells
 have hla:=lt_of_at ha
 have ca:w.cell? ⟨a,o,none⟩=some (.string ⟨t.toArray⟩):=by rw [cell_at ha,h1]
 have H:=hide h;have Ha:=hide ha;have H2:=hide h2
 generalize hN:nearestF r.hold t=N
 have HN:=hide hN
 have c2:=fun (wx:World) (hb:Below w.heap.size w wx)=>cell_at (Below.at hb h.cells hlv)
 by_cases hk:N.kind=must
 ·have e1:resolveF r t d must line=(r,N.num):=by unfold resolveF;rw [hN,if_pos hk]
  rw [e1]
  have hk':(N.kind == must)=true:=by simp [hk]
  clear e1 h ha h1 h2 hN hk c2
  go_enter Tryz.func118,Tryz.ntmps118
  go_wp2_with (go_at_call 180;refine (nearest_any n0 _ vb hv r H.out t hpos hlim).mono ?_;rw [HN.out];rintro e w1 ⟨rfl,hb⟩;have ha1:=Below.at hb Ha.out hla;have d1:∀ ob,(w1.alloc ob).cell? ⟨a,o+1,none⟩=some (.int .i64 d):=(fun ob=>by rw [cell_at (at_alloc ha1 ob),H2.out]);have f1:∀ ob i,(w1.alloc ob).frozen? ⟨a,i,none⟩=false:=(fun ob i=>frozen_at (at_alloc ha1 ob) i);have Ha1:=hide ha1;have Hb:=hide hb;clear ha1 hb)
  go_end0
  have z:=Hb.out.size
  have b1:Below w.heap.size w (w1.alloc (.cells #[.string ⟨N.text.toArray⟩,.int .i64 N.kind,.int .i64 N.num] 124)):=Hb.out.alloc z _
  refine⟨rfl,?_,at_setCell (at_alloc Ha1.out _) _ _,(Kept2.below b1).setA _ _⟩
  refine RvAt.frame H.out ?_ ?_
  ·rw [Below.heap_setCell _ _ _ _ (by simpa using hav.symm)];exact b1.block vb hlv
  ·intro g hg
   have hlg:=(H.out.own.lt g hg).2
   rw [Below.heap_setCell _ _ _ _ (by rintro rfl;exact hah hg)];exact b1.block g hlg
 ·have hk':(N.kind == must)=false:=by simp [hk]
  by_cases hz:r.line=0
  ·have e1:resolveF r t d must line=({ r with line:=line },d):=by unfold resolveF;rw [hN,if_neg hk,if_pos hz]
   rw [e1]
   have hz':(r.line == 0)=true:=by simp [hz]
   clear e1 h ha h1 h2 hN hk hz c2
   go_enter Tryz.func118,Tryz.ntmps118
   go_wp2_with (go_at_call 180;refine (nearest_any n0 _ vb hv r H.out t hpos hlim).mono ?_;rw [HN.out];rintro e w1 ⟨rfl,hb⟩;have hv1:=Below.at hb H.out.cells hlv;have d1:∀ ob,(w1.alloc ob).cell? ⟨vb,2,none⟩=some (.int .i64 r.line):=(fun ob=>cell_at (at_alloc hv1 ob) 2);have f1:∀ ob i,(w1.alloc ob).frozen? ⟨vb,i,none⟩=false:=(fun ob i=>frozen_at (at_alloc hv1 ob) i);have Hv1:=hide hv1;have Hb:=hide hb;clear hv1 hb)
   go_end0
   have z:=Hb.out.size
   have b1:Below w.heap.size w (w1.alloc (.cells #[.string ⟨N.text.toArray⟩,.int .i64 N.kind,.int .i64 N.num] 124)):=Hb.out.alloc z _
   refine⟨rfl,⟨at_setCell (at_alloc Hv1.out _) 2 _,?_,H.out.ge,H.out.hge⟩,?_,(Kept2.below b1).setB _ _⟩
   ·refine ownsRow_frame H.out.own (fun g hg=>?_)
    have hlg:=(H.out.own.lt g hg).2
    have hne:=(H.out.hge g hg).2
    rw [Below.heap_setCell _ _ _ _ (by simpa using hne)];exact b1.block g hlg
   ·rw [Below.heap_setCell _ _ _ _ (by simpa using hav),b1.block a hla,Ha.out,set_same H2.out]
  ·have e1:resolveF r t d must line=(r,d):=by unfold resolveF;rw [hN,if_neg hk,if_neg hz]
   rw [e1]
   have hz':(r.line == 0)=false:=by simp [hz]
   clear e1 h ha h1 h2 hN hk hz c2
   go_enter Tryz.func118,Tryz.ntmps118
   go_wp2_with (go_at_call 180;refine (nearest_any n0 _ vb hv r H.out t hpos hlim).mono ?_;rw [HN.out];rintro e w1 ⟨rfl,hb⟩;have hv1:=Below.at hb H.out.cells hlv;have d1:∀ ob,(w1.alloc ob).cell? ⟨vb,2,none⟩=some (.int .i64 r.line):=(fun ob=>cell_at (at_alloc hv1 ob) 2);have Hv1:=hide hv1;have Hb:=hide hb;clear hv1 hb)
   go_end0
   have z:=Hb.out.size
   have b1:Below w.heap.size w (w1.alloc (.cells #[.string ⟨N.text.toArray⟩,.int .i64 N.kind,.int .i64 N.num] 124)):=Hb.out.alloc z _
   refine⟨rfl,H.out.frame (b1.block vb hlv) (fun g hg=>b1.block g (H.out.own.lt g hg).2),?_,Kept2.below b1⟩
   rw [b1.block a hla,Ha.out,set_same H2.out]
end Go.Proofs.YtnhidaamfnjdjaaGreatDoor
namespace Go.Proofs.YtnhidaamfnjdjaaGreatDoor
open Go.RowKit
structure KeptI (lo hi b:Nat) (w w':World):Prop where
 os:w'.os=w.os
 tape:w'.tape=w.tape
 output:w'.output=w.output
 size:w.heap.size≤w'.heap.size
 block:∀ k,k<w.heap.size->¬ (lo≤k∧k<hi)->k≠b->w'.heap[k]?=w.heap[k]?
theorem KeptI.refl (lo hi b:Nat) (w:World):KeptI lo hi b w w:=⟨rfl,rfl,rfl,Nat.le_refl _,fun _ _ _ _=>rfl⟩
theorem KeptI.trans {lo hi b:Nat} {x y z:World} (h:KeptI lo hi b x y) (k:KeptI lo hi b y z):KeptI lo hi b x z :=
 ⟨k.os.trans h.os,k.tape.trans h.tape,k.output.trans h.output,Nat.le_trans h.size k.size,fun i hi h1 h2=>(k.block i (Nat.lt_of_lt_of_le hi h.size) h1 h2).trans (h.block i hi h1 h2)⟩
theorem KeptI.widen {lo hi lo' hi' b:Nat} {x y:World} (h:KeptI lo hi b x y) (h1:lo'≤lo) (h2:hi≤hi'):KeptI lo' hi' b x y :=
 ⟨h.os,h.tape,h.output,h.size,fun k hk a c=>h.block k hk (by omega) c⟩
theorem Kept2.toI {a b:Nat} {w w':World} (h:Kept2 a b w w') {lo hi:Nat} (h1:lo≤a) (h2:a<hi):KeptI lo hi b w w' :=
 ⟨h.os,h.tape,h.output,h.size,fun k hk x y=>h.block k hk (by omega) y⟩
theorem resolveF_hold (r:RV) (t:Bs) (a b c:Int):(resolveF r t a b c).1.hold=r.hold:=by unfold resolveF;split <;> rfl
theorem eachF_hold (line:Int):∀ (e:PE) (r:RV),(eachF line r e).1.hold=r.hold
 | .nil,_=>rfl
 | .num _,_=>rfl
 | .var _ _,_=>resolveF_hold _ _ _ _ _
 | .pair _ a b,r=>(eachF_hold line b _).trans (eachF_hold line a r)
structure CapN (w:World) (vb rbx pbx nb:Nat) (line:Int):Prop where
 c1:w.cell? ⟨rbx,0,none⟩=some (.pointer (some ⟨vb,0,none⟩))
 c2:w.cell? ⟨pbx,0,none⟩=some (.pointer (some ⟨nb,0,none⟩))
 c3:w.cell? ⟨nb,1,none⟩=some (.int .i64 line)
theorem cell_lt {w:World} {b i:Nat} {v:Value} (h:w.cell? ⟨b,i,none⟩=some v):b<w.heap.size:=by
 rcases Nat.lt_or_ge b w.heap.size with h'|h'
 ·exact h'
 ·simp [World.cell?,Array.getElem?_eq_none h'] at h
theorem cell_of_block {w w':World} {b i:Nat} {v:Value} (h:w.cell? ⟨b,i,none⟩=some v) (hb:w'.heap[b]?=w.heap[b]?):w'.cell? ⟨b,i,none⟩=some v:=by
 simpa [World.cell?,hb] using h
theorem CapN.kept {w w':World} {vb rbx pbx nb lo hi:Nat} {line:Int} (h:CapN w vb rbx pbx nb line) (hk:KeptI lo hi vb w w') (h1:hi≤rbx) (h2:hi≤pbx) (h3:¬ (lo≤nb∧nb<hi)) (n1:rbx≠vb) (n2:pbx≠vb) (n3:nb≠vb):CapN w' vb rbx pbx nb line :=
 ⟨cell_of_block h.c1 (hk.block _ (cell_lt h.c1) (by omega) n1),cell_of_block h.c2 (hk.block _ (cell_lt h.c2) (by omega) n2),cell_of_block h.c3 (hk.block _ (cell_lt h.c3) h3 n3)⟩
theorem RvAt.drew {n0:Nat} {w:World} {vb:Nat} {hv:Value} {r:RV} (h:RvAt n0 w vb hv r):RvAt n0 w.drew vb hv r:=h.frame rfl (fun _ _=>rfl)
set_option maxHeartbeats 1000000 in
theorem closureN_any (n0:Nat) (w:World) (vb:Nat) (hv:Value) (r:RV) (h:RvAt n0 w vb hv r) (hpos:0<r.hold.length) (hlim:r.hold.length≤100000) (rbx pbx nb:Nat) (line:Int) (hc:CapN w vb rbx pbx nb line)
  (a o:Nat) (cs:Array Value) (ta:TypeId) (ha:w.heap[a]?=some (.cells cs ta)) (t:Bs) (d:Int) (h1:cs[o]?=some (.string ⟨t.toArray⟩)) (h2:cs[o+1]?=some (.int .i64 d)) (hav:a≠vb) (hah:hv.ownBlock≠some a) :
  Calls Tryz.prog 120 #[.pointer (some ⟨a,o,none⟩),.pointer (some ⟨rbx,0,none⟩),.pointer (some ⟨pbx,0,none⟩)] w fun e w'=>e=.returned (.tuple #[])∧RvAt n0 w' vb hv (resolveF r t d 15 line).1 ∧
   w'.heap[a]?=some (.cells (cs.setIfInBounds (o+1) (.int .i64 (resolveF r t d 15 line).2)) ta)∧Kept2 a vb w w':=by
 have c1:=hc.c1;have c2:=hc.c2;have c3:=hc.c3
 have H:=hide h;have Ha:=hide ha;have H1:=hide h1;have H2:=hide h2
 clear h ha h1 h2 hc
 go_enter Tryz.func120,Tryz.ntmps120
 go_wp2_with fail
 go_region_with (go_at_call 118;refine (resolve_any n0 _ vb hv r (by exact H.out.drew) hpos hlim a o cs ta (by exact at_drew Ha.out) t d H1.out H2.out hav hah 15 line).mono ?_;rintro e w2 ⟨rfl,h2,h3,k2⟩;have Hr:=hide h2;have Hw:=hide h3;have K2:=hide k2;clear h2 h3 k2)
 all_goals
  go_wp2
  go_end0
  exact⟨rfl,Hr.out,Hw.out,⟨K2.out.os,K2.out.tape,K2.out.output,K2.out.size,K2.out.block⟩⟩
end Go.Proofs.YtnhidaamfnjdjaaGreatDoor
namespace Go.Proofs.YtnhidaamfnjdjaaGreatDoor
open Go.RowKit
abbrev cloN (rbx pbx:Nat):Value:=.func (.func 120) #[] #[.pointer (some ⟨rbx,0,none⟩),.pointer (some ⟨pbx,0,none⟩)]
set_option maxHeartbeats 1000000 in
theorem each_any (n0 vb:Nat) (hv:Value) (rbx pbx nb:Nat) (line:Int) (n1:rbx≠vb) (n2:pbx≠vb) (n3:nb≠vb):∀ (e:PE) (w:World) (r:RV) (lo hi:Nat) (v:Option Addr),RvAt n0 w vb hv r->0<r.hold.length->r.hold.length≤100000->CapN w vb rbx pbx nb line->RepE w e lo hi v->hi≤n0->hi≤rbx->hi≤pbx->¬ (lo≤nb∧nb<hi)->hi≤w.heap.size ->
  Calls Tryz.prog 119 #[.pointer v,cloN rbx pbx] w fun x w'=>x=.returned (.tuple #[])∧RvAt n0 w' vb hv (eachF line r e).1∧RepE w' (eachF line r e).2 lo hi v∧KeptI lo hi vb w w':=by
 intro e
 induction e with
 | nil =>
  intro w r lo hi v h hpos hlim hc hr h1 h2 h3 h4 h5
  have H:=hide h;have Hr:=hide hr
  obtain⟨_,rfl⟩:=hr
  clear h hc
  go_enter Tryz.func119,Tryz.ntmps119
  go_wp2_with fail
  exact bodyPost_ret (v:=.tuple #[]) (by simp [results,Tryz.results119,go_sem]) rfl ⟨rfl,H.out,Hr.out,KeptI.refl _ _ _ _⟩
 | num n =>
  intro w r lo hi v h hpos hlim hc hr h1 h2 h3 h4 h5
  have H:=hide h;have Hr:=hide hr
  obtain⟨b,l1,l2,rfl,hb⟩:=hr
  have c0:w.cell? ⟨b,0,none⟩=some (.int .i64 0):=cell_at hb 0
  clear h hc hb
  go_enter Tryz.func119,Tryz.ntmps119
  go_wp2_with fail
  go_end0
  exact⟨rfl,H.out,Hr.out,KeptI.refl _ _ _ _⟩
 | var n d =>
  intro w r lo hi v h hpos hlim hc hr h1 h2 h3 h4 h5
  obtain⟨b,l1,l2,rfl,hb⟩:=hr
  have c0:w.cell? ⟨b,0,none⟩=some (.int .i64 1):=cell_at hb 0
  have hge:=h.ge
  have hav:b≠vb:=by omega
  have hah:hv.ownBlock≠some b:=by intro e;have:=(h.hge b e).1;omega
  have H:=hide h;have Hc:=hide hc;have Hb:=hide hb
  clear h hc hb
  go_enter Tryz.func119,Tryz.ntmps119
  go_wp2_with (go_at_call 120;refine (closureN_any n0 _ vb hv r H.out hpos hlim rbx pbx nb line Hc.out b 2 _ _ Hb.out n d rfl rfl hav hah).mono ?_;rintro x w2 ⟨rfl,h2,h3,k2⟩;have Hr:=hide h2;have Hw:=hide h3;have K2:=hide k2;clear h2 h3 k2)
  go_end0
  exact⟨rfl,Hr.out,⟨b,l1,l2,rfl,Hw.out⟩,K2.out.toI l1 l2⟩
 | pair op a b iha ihb =>
  intro w r lo hi v h hpos hlim hc hr h1 h2 h3 h4 h5
  obtain⟨c,m1,m2,vl,vr,l1,l2,l3,l4,rfl,hb,ra,rb⟩:=hr
  have c0:w.cell? ⟨c,0,none⟩=some (.int .i64 2):=cell_at hb 0
  have c5:w.cell? ⟨c,5,none⟩=some (.pointer vl):=cell_at hb 5
  have hge:=h.ge
  have H:=hide h;have Hc:=hide hc;have Hb:=hide hb;have Ra:=hide ra;have Rb:=hide rb;have Ia:=hide iha;have Ib:=hide ihb
  clear h hc hb ra rb iha ihb
  go_enter Tryz.func119,Tryz.ntmps119
  go_wp2_with fail
  refine (Ia.out w r lo m1 vl H.out hpos hlim Hc.out Ra.out (by omega) (by omega) (by omega) (by omega) (by omega)).mono ?_
  rintro x w2 ⟨rfl,h2',r2,k2⟩
  have d6:w2.cell? ⟨c,6,none⟩=some (.pointer vr):=by
   rw [cell_at ((k2.block c (by have:=lt_of_at Hb.out;omega) (by omega) (by omega)).trans Hb.out) 6];rfl
  have hb2:=(k2.block c (by have:=lt_of_at Hb.out;omega) (by omega) (by omega)).trans Hb.out
  have rb2:RepE w2 b m1 m2 vr:=Rb.out.frame (fun k x y=>k2.block k (by omega) (by omega) (by omega))
  have hc2:=Hc.out.kept k2 (by omega) (by omega) (by omega) n1 n2 n3
  have hp2:0<(eachF line r a).1.hold.length:=by rw [eachF_hold];exact hpos
  have hl2:(eachF line r a).1.hold.length≤100000:=by rw [eachF_hold];exact hlim
  have s2:=k2.size
  have H2:=hide h2';have R2:=hide r2;have K2:=hide k2;have Rb2:=hide rb2;have Hc2:=hide hc2;have Hb2:=hide hb2
  clear h2' r2 k2 rb2 hc2 hb2
  go_wp2_with fail
  refine (Ib.out w2 _ m1 m2 vr H2.out hp2 hl2 Hc2.out Rb2.out (by omega) (by omega) (by omega) (by omega) (by omega)).mono ?_
  rintro x w3 ⟨rfl,h3',r3,k3⟩
  have H3:=hide h3';have R3:=hide r3;have K3:=hide k3
  clear h3' r3 k3
  go_wp2
  go_end0
  refine⟨rfl,H3.out,⟨c,m1,m2,vl,vr,l1,l2,l3,l4,rfl,?_,?_,R3.out⟩,(K2.out.widen (Nat.le_refl _) (by omega)).trans (K3.out.widen l1 (by omega))⟩
  ·rw [K3.out.block c (by have:=lt_of_at Hb2.out;omega) (by omega) (by omega)];exact Hb2.out
  ·exact R2.out.frame (fun k x y=>K3.out.block k (by omega) (by omega) (by omega))
end Go.Proofs.YtnhidaamfnjdjaaGreatDoor
namespace Go.Proofs.YtnhidaamfnjdjaaGreatDoor
open Go.RowKit
structure NmAt (n0:Nat) (w:World) (ρ:Nat->Role) (vb:Nat) (hv:Value) (r:RV) (ns:List PNode) (ms:List NM):Prop where
 tree:TreeAt w ρ ns ms
 rv:RvAt n0 w vb hv r
 lt:∀ (i:Nat) (m:NM),ms[i]?=some m->m.blk<n0∧m.ehi≤n0∧∀ g,m.sl.ownBlock=some g->g<n0
structure Fr (n0:Nat) (ρ:Nat->Role) (vb:Nat) (hv:Value) (w w':World):Prop where
 os:w'.os=w.os
 tape:w'.tape=w.tape
 output:w'.output=w.output
 size:w.heap.size≤w'.heap.size
 block:∀ k,k<w.heap.size->(k<n0->ρ k=.junk)->k≠vb->hv.ownBlock≠some k->w'.heap[k]?=w.heap[k]?
theorem Fr.refl (n0:Nat) (ρ:Nat->Role) (vb:Nat) (hv:Value) (w:World):Fr n0 ρ vb hv w w:=⟨rfl,rfl,rfl,Nat.le_refl _,fun _ _ _ _ _=>rfl⟩
theorem Fr.trans {n0:Nat} {ρ:Nat->Role} {vb:Nat} {hv hv1:Value} {w w1 w2:World} (h:Fr n0 ρ vb hv w w1) (hh:hv1.ownBlock=hv.ownBlock∨∃ g,hv1.ownBlock=some g∧w.heap.size≤g) (k:Fr n0 ρ vb hv1 w1 w2):Fr n0 ρ vb hv w w2 :=
 ⟨k.os.trans h.os,k.tape.trans h.tape,k.output.trans h.output,Nat.le_trans h.size k.size,fun i hi h1 h2 h3=>(k.block i (Nat.lt_of_lt_of_le hi h.size) h1 h2 (by
  rcases hh with e|⟨g,e,hg⟩
  ·rw [e];exact h3
  ·rw [e];intro e2;injection e2 with e2;omega)).trans (h.block i hi h1 h2 h3)⟩
theorem Fr.below {n0:Nat} {ρ:Nat->Role} {vb:Nat} {hv:Value} {w w':World} (h:Below w.heap.size w w'):Fr n0 ρ vb hv w w':=⟨h.os,h.tape,h.output,h.size,fun k hk _ _ _=>h.block k hk⟩
theorem set_get_ne {α:Type} (l:List α) (i j:Nat) (x y:α) (h:(l.set i x)[j]?=some y) (hne:j≠i):l[j]?=some y:=by
 rw [at_set_ne _ _ _ _ (Ne.symm hne)] at h;exact h
theorem NmAt.set {n0:Nat} {w w':World} {ρ:Nat->Role} {vb:Nat} {hv:Value} {r r':RV} {ns:List PNode} {ms:List NM} (h:NmAt n0 w ρ vb hv r ns ms) {i:Nat} (hi:i<ns.length) {m:NM} (hm:ms[i]?=some m) (n':PNode) (hk:n'.kids=(ns.getD i default).kids)
  (hn:NodeAt w' ρ ((ns.getD i default).kids.map (ptrTo ms)) i n' m) (hr:RvAt n0 w' vb hv r') (hz:w.heap.size≤w'.heap.size)
  (hf:∀ k,k<w.heap.size->k<n0->ρ k≠.node i->ρ k≠.ex i->w'.heap[k]?=w.heap[k]?):NmAt n0 w' ρ vb hv r' (ns.set i n') ms:=by
 refine⟨⟨by rw [h.tree.len];simp,?_⟩,hr,h.lt⟩
 intro j n1 m1 hn1 hm1
 by_cases e:j=i
 ·subst e
  rw [List.getElem?_set_self hi] at hn1
  injection hn1 with hn1;subst hn1
  rw [hm] at hm1;injection hm1 with hm1;subst hm1
  rw [hk];exact hn
 ·have hN:=h.tree.at' j n1 m1 (set_get_ne _ _ _ _ _ hn1 e) hm1
  have hl:=h.lt j m1 hm1
  have lc:=lt_of_at hN.cells
  have fr:∀ k,k<w.heap.size->k<n0->(ρ k=.node j∨ρ k=.arr j∨ρ k=.ex j)->w'.heap[k]?=w.heap[k]?:=by
   intro k hk1 hk2 hro
   refine hf k hk1 hk2 ?_ ?_
   all_goals
    intro e2
    rcases hro with hro|hro|hro <;> rw [hro] at e2 <;> simp at e2
    exact e e2
  refine⟨?_,hN.role,?_,hN.exrole,Nat.le_trans hN.exlt hz,?_,hN.arrole⟩
  ·rw [fr m1.blk lc hl.1 (.inl hN.role)];exact hN.cells
  ·exact hN.expr.frame (fun k a b=>fr k (Nat.lt_of_lt_of_le b hN.exlt) (Nat.lt_of_lt_of_le b hl.2.1) (.inr (.inr (hN.exrole k a b))))
  ·exact ownsRow_frame hN.own (fun g hg=>fr g (hN.own.lt g hg).2 (hl.2.2 g hg) (.inr (.inl (hN.arrole g hg))))
theorem NmAt.setHead {n0:Nat} {w w':World} {ρ:Nat->Role} {vb:Nat} {hv:Value} {r r':RV} {ns:List PNode} {ms:List NM} (h:NmAt n0 w ρ vb hv r ns ms) {i:Nat} (hi:i<ns.length) {m:NM} (hm:ms[i]?=some m) (n':PNode) (hk:n'.kids=(ns.getD i default).kids) (he:n'.expr=(ns.getD i default).expr)
  (hw:w'.heap[m.blk]?=some (.cells (nodeCells n' m) 115)) (hr:RvAt n0 w' vb hv r') (hkp:Kept2 m.blk vb w w'):NmAt n0 w' ρ vb hv r' (ns.set i n') ms∧Fr n0 ρ vb hv w w':=by
 have hN:=h.tree.at' i (ns.getD i default) m (by rw [getD_lt _ _ _ hi];simp [hi]) hm
 have hl:=h.lt i m hm
 have hge:=h.rv.ge
 refine⟨h.set hi hm n' hk ?_ hr hkp.size ?_,⟨hkp.os,hkp.tape,hkp.output,hkp.size,?_⟩⟩
 ·refine⟨hw,hN.role,?_,hN.exrole,Nat.le_trans hN.exlt hkp.size,?_,hN.arrole⟩
  ·rw [he]
   refine hN.expr.frame (fun k a b=>hkp.block k (Nat.lt_of_lt_of_le b hN.exlt) ?_ (by omega))
   rintro rfl
   have:=hN.exrole _ a b
   rw [hN.role] at this;cases this
  ·rw [hk]
   refine ownsRow_frame hN.own (fun g hg=>hkp.block g (hN.own.lt g hg).2 ?_ (by have:=hl.2.2 g hg;omega))
   rintro rfl
   have:=hN.arrole _ hg
   rw [hN.role] at this;cases this
 ·intro k hk1 hk2 h1 h2
  exact hkp.block k hk1 (by rintro rfl;exact h1 hN.role) (by omega)
 ·intro k hk1 hk2 h1 h2
  refine hkp.block k hk1 ?_ h1
  rintro rfl
  have:=hk2 hl.1
  rw [hN.role] at this;cases this
theorem NmAt.setExpr {n0:Nat} {w w':World} {ρ:Nat->Role} {vb:Nat} {hv:Value} {r r':RV} {ns:List PNode} {ms:List NM} (h:NmAt n0 w ρ vb hv r ns ms) {i:Nat} (hi:i<ns.length) {m:NM} (hm:ms[i]?=some m) (e':PE)
  (hx:RepE w' e' m.elo m.ehi m.ve) (hr:RvAt n0 w' vb hv r') (hkp:KeptI m.elo m.ehi vb w w'):NmAt n0 w' ρ vb hv r' (ns.set i { ns.getD i default with expr:=e' }) ms∧Fr n0 ρ vb hv w w':=by
 have hN:=h.tree.at' i (ns.getD i default) m (by rw [getD_lt _ _ _ hi];simp [hi]) hm
 have hl:=h.lt i m hm
 have hge:=h.rv.ge
 have nr:∀ k,ρ k≠.ex i->¬ (m.elo≤k∧k<m.ehi):=fun k hk hc=>hk (hN.exrole k hc.1 hc.2)
 refine⟨h.set hi hm _ rfl ?_ hr hkp.size ?_,⟨hkp.os,hkp.tape,hkp.output,hkp.size,?_⟩⟩
 ·refine⟨?_,hN.role,hx,hN.exrole,Nat.le_trans hN.exlt hkp.size,?_,hN.arrole⟩
  ·rw [hkp.block m.blk (lt_of_at hN.cells) (nr _ (by rw [hN.role];simp)) (by omega)];exact hN.cells
  ·exact ownsRow_frame hN.own (fun g hg=>hkp.block g (hN.own.lt g hg).2 (nr _ (by rw [hN.arrole g hg];simp)) (by have:=hl.2.2 g hg;omega))
 ·intro k hk1 hk2 h1 h2
  exact hkp.block k hk1 (nr k h2) (by omega)
 ·intro k hk1 hk2 h1 h2
  refine hkp.block k hk1 ?_ h1
  rintro⟨a,b⟩
  have:=hk2 (Nat.lt_of_lt_of_le b hl.2.1)
  rw [hN.exrole k a b] at this;cases this
theorem NmAt.below {n0:Nat} {w w':World} {ρ:Nat->Role} {vb:Nat} {hv:Value} {r:RV} {ns:List PNode} {ms:List NM} (h:NmAt n0 w ρ vb hv r ns ms) (hb:Below w.heap.size w w'):NmAt n0 w' ρ vb hv r ns ms :=
 ⟨h.tree.frame hb.size (fun b _ hlt _=>⟨hb.block b hlt,rfl⟩),h.rv.frame (hb.block vb (lt_of_at h.rv.cells)) (fun g hg=>hb.block g (h.rv.own.lt g hg).2),h.lt⟩
end Go.Proofs.YtnhidaamfnjdjaaGreatDoor
