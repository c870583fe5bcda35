import Derived.Test.YtnhidaamfnjdjaaGreatDoorZHeapT
import Derived.Test.YtnhidaamfnjdjaaGreatDoorZReadA
import Derived.Test.YtnhidaamfnjdjaaGreatDoorZPure
import Derived.Deep.LoopGhost
import Derived.Deep.DeepFit
namespace Go.Proofs.YtnhidaamfnjdjaaGreatDoor
open Go.RowKit
set_option maxHeartbeats 1000000 in
theorem room_any (k:Int) (w:World) :
  Calls Tryz.prog 115 #[.int .i64 k] w fun e w'=>e=.returned (.tuple #[.int .i64 (roomL k),.int .i64 (roomM k)])∧w'=w:=by
 by_cases h:k=7∨k=8∨k=11∨k=13∨k=9∨k=0∨k=10∨k=12∨k=14∨k=15∨k=16
 ·rcases h with rfl|rfl|rfl|rfl|rfl|rfl|rfl|rfl|rfl|rfl|rfl
  all_goals
   go_enter Tryz.func115,Tryz.ntmps115
   go_wp2
   go_ret2
   exact⟨rfl,rfl⟩
 ·simp only [not_or] at h
  obtain⟨h1,h2,h3,h4,h5,h6,h7,h8,h9,h10,h11⟩:=h
  have e1:roomL k=0:=by simp [roomL, *]
  have e2:roomM k=0:=by simp [roomM, *]
  rw [e1,e2]
  have h1:=beq_eq_false_iff_ne.2 h1
  have h2:=beq_eq_false_iff_ne.2 h2
  have h3:=beq_eq_false_iff_ne.2 h3
  have h4:=beq_eq_false_iff_ne.2 h4
  have h5:=beq_eq_false_iff_ne.2 h5
  have h6:=beq_eq_false_iff_ne.2 h6
  have h7:=beq_eq_false_iff_ne.2 h7
  have h8:=beq_eq_false_iff_ne.2 h8
  have h9:=beq_eq_false_iff_ne.2 h9
  have h10:=beq_eq_false_iff_ne.2 h10
  have h11:=beq_eq_false_iff_ne.2 h11
  clear e1 e2
  go_enter Tryz.func115,Tryz.ntmps115
  go_wp2
  go_ret2
  exact⟨rfl,rfl⟩
theorem ownsRow_len {w:World} {base:Nat} {e:TypeId} {size:Nat} {v:Value} {n:Nat} {xs:List Value} (h:w.ownsRow base e size v n xs):∃ a c,v=.slice a n c:=by
 rcases h.2 with ⟨rfl,rfl⟩|⟨g,cap,cur,rfl,_⟩
 ·exact⟨none,0,rfl⟩
 ·exact⟨_,_,rfl⟩
theorem PS.complete_step (s:PS) (d i:Nat) (h:d+i<s.chain.length) (hf:s.full (s.above (d+i))=false):s.complete d=false:=by
 unfold PS.complete
 rw [List.all_eq_false]
 refine⟨s.chain[d+i],?_,?_⟩
 ·rw [List.mem_drop_iff_getElem]
  exact⟨i,by omega,by simp⟩
 ·unfold PS.above at hf
  rw [getD_lt _ _ _ h] at hf
  simp [hf]
theorem PS.complete_end (s:PS) (d:Nat) (hi:∀ j,d+j<s.chain.length->s.full (s.above (d+j))=true):s.complete d=true:=by
 unfold PS.complete
 rw [List.all_eq_true]
 intro x hx
 rw [List.mem_drop_iff_getElem] at hx
 obtain⟨j,hj,rfl⟩:=hx
 have:=hi j (by omega)
 unfold PS.above at this
 rwa [getD_lt _ _ _ (by omega)] at this
set_option maxHeartbeats 1000000 in
theorem completeFrom_any (w:World) (ρ:Nat->Role) (pb:Nat) (s:PS) (ms:List NM) (cv:Value) (hp:ParserAt w ρ pb s.chain ms cv) (ht:TreeAt w ρ s.nodes ms) (ok:s.Ok) (d:Nat) (hd:d≤s.chain.length) :
  Calls Tryz.prog 62 #[.pointer (some ⟨pb,0,none⟩),.int .i64 d] w fun e w'=>e=.returned (.bool (s.complete d))∧w'=w:=by
 have c0:w.cell? ⟨pb,0,none⟩=some cv:=cell_at hp.cells 0
 have hpos:0<s.chain.length:=List.length_pos_iff.2 ok.pos
 obtain⟨g,cap,cur,rfl,hg,hc1,hc2,hc3,hc4⟩:=ownsRow_shape hp.own hpos
 have hsh:=ok.short
 generalize hn:s.chain.length=n at hd hpos hc1 hc4 hsh c0
 have Hn:=hide hn
 have hm:cap≤9223372036854775807:=hc2
 have Hp:=hide hp;have Ht:=hide ht;have Hok:=hide ok;have Hg:=hide hg;have Hc4:=hide hc4
 clear hp ht ok hg hc4 hc2 hn
 generalize hB:s.complete d=B
 have HB:=hide hB
 clear hB
 have hidx:∀ j,j<n->w.cell? ⟨g,j,none⟩=some (ptrTo ms (s.above j)):=by
  intro j hj
  refine ownsRow_cell Hg.out Hc4.out ?_
  have hj':j<s.chain.length:=by rw [Hn.out];exact hj
  simp [hj',PS.above]
 have hnode:∀ j,j<n->∃ a c,w.cell? ⟨blkOf ms (s.above j),0,none⟩=some (.int .i64 (s.at (s.above j)).kind)∧w.cell? ⟨blkOf ms (s.above j),7,none⟩=some (.slice a (s.at (s.above j)).kids.length c):=by
  intro j hj
  have hj':j<s.chain.length:=by rw [Hn.out];exact hj
  obtain⟨m,hm1,hm2,hm3⟩:=Ht.out.get (Hok.out.above hj')
  obtain⟨a,c,hac⟩:=ownsRow_len hm2.own
  refine⟨a,c,?_,?_⟩
  ·rw [hm3];exact cell_at hm2.cells 0
  ·rw [hm3,cell_at hm2.cells 7]
   show some m.sl=_
   rw [hac];rfl
 have Hidx:=hide hidx;have Hnode:=hide hnode
 clear hidx hnode
 by_cases hdn:d=n
 ·subst hdn
  have hB:B=true:=by
   rw [<-HB.out]
   exact PS.complete_end s d (fun j hj=>by rw [Hn.out] at hj;omega)
  subst hB
  by_cases hcd:cap=d
  ·subst hcd
   go_enter Tryz.func62,Tryz.ntmps62
   go_wp2_with fail
   refine wp_loop_rounds 1 ?_
   rw [rounds_succ]
   go_wp2
   go_ret
   exact⟨rfl,rfl⟩
  ·go_enter Tryz.func62,Tryz.ntmps62
   go_wp2_with fail
   refine wp_loop_rounds 1 ?_
   rw [rounds_succ]
   go_wp2
   go_ret
   exact⟨rfl,rfl⟩
 ·have hlt:d<n:=by omega
  have hcd:¬ cap=d:=by omega
  go_enter Tryz.func62,Tryz.ntmps62
  go_wp2_with fail
  go_loop [6,7,8,16] (fun _ _ _ i=>∃ k:Nat,k≤n - d∧i=.int .i64 k∧∀ j,j<k->s.full (s.above (d+j))=true) (fun _ _ _ i=>n - d - (intOf i).toNat)
  case atStart=>exact⟨0,by omega,rfl,fun j hj=>by omega⟩
  case round =>
   obtain⟨k,hk,rfl,hall⟩:=hrel
   have Hall:=hide hall
   clear hall
   by_cases hkn:k<n - d
   ·have ci:=Hidx.out (d+k) (by omega)
    obtain⟨a,c,cn0,cn7⟩:=Hnode.out (d+k) (by omega)
    unfold ptrTo at ci
    by_cases hf:s.full (s.above (d+k))=true
    ·have hf':¬ ((s.at (s.above (d+k))).kids.length:Int)<roomL (s.at (s.above (d+k))).kind:=by
      unfold PS.full at hf;simp at hf;omega
     go_wp2_with (go_at_call 115;refine (room_any _ _).mono ?_;rintro e w' ⟨rfl,rfl⟩)
     go_round
     case rel=>exact⟨k+1,by omega,by go_num,fun j hj=>by
      by_cases e:j=k
      ·subst e;exact hf
      ·exact Hall.out j (by omega)⟩
     case measure=>simp [intOf];omega
    ·have hf':((s.at (s.above (d+k))).kids.length:Int)<roomL (s.at (s.above (d+k))).kind:=by
      unfold PS.full at hf;simp at hf;omega
     have hB:B=false:=by
      rw [<-HB.out]
      exact PS.complete_step s d k (by rw [Hn.out];omega) (by simpa using hf)
     subst hB
     go_wp2_with (go_at_call 115;refine (room_any _ _).mono ?_;rintro e w' ⟨rfl,rfl⟩)
     go_ret
     exact⟨rfl,rfl⟩
   ·have hB:B=true:=by
     rw [<-HB.out]
     exact PS.complete_end s d (fun j hj=>Hall.out j (by rw [Hn.out] at hj;omega))
    subst hB
    go_wp2_with fail
    go_ret
    exact⟨rfl,rfl⟩
set_option maxHeartbeats 1000000 in
theorem fits_any (w:World) (ρ:Nat->Role) (pb:Nat) (s:PS) (ms:List NM) (cv:Value) (hp:ParserAt w ρ pb s.chain ms cv) (ht:TreeAt w ρ s.nodes ms) (ok:s.Ok) (d:Nat) (hd:d≤10) :
  Calls Tryz.prog 113 #[.pointer (some ⟨pb,0,none⟩),.int .i64 d] w fun e w'=>e=.returned (.bool (s.fits d))∧w'=w:=by
 have c0:w.cell? ⟨pb,0,none⟩=some cv:=cell_at hp.cells 0
 have hpos:0<s.chain.length:=List.length_pos_iff.2 ok.pos
 obtain⟨g,cap,cur,hcv,hg,hc1,hc2,hc3,hc4⟩:=ownsRow_shape hp.own hpos
 have hsh:=ok.short
 rw [hcv] at c0
 have Hp:=hide hp;have Ht:=hide ht;have Hok:=hide ok;have Hg:=hide hg;have Hc4:=hide hc4
 clear hp ht ok hg hc4 hc2 hcv
 by_cases h1:d<s.chain.length
 ·have h1':¬ (s.chain.length:Int)≤(d:Int):=by omega
  have hb1:decide ((s.chain.length:Int)≤(d:Int))=false:=by simpa using h1
  have ci:w.cell? ⟨g,d,none⟩=some (ptrTo ms (s.above d)):=by
   refine ownsRow_cell Hg.out Hc4.out ?_
   simp [h1,PS.above]
  obtain⟨m,hm1,hm2,hm3⟩:=Ht.out.get (Hok.out.above h1)
  obtain⟨a,c,hac⟩:=ownsRow_len hm2.own
  have cn0:w.cell? ⟨blkOf ms (s.above d),0,none⟩=some (.int .i64 (s.at (s.above d)).kind):=by rw [hm3];exact cell_at hm2.cells 0
  have cn7:w.cell? ⟨blkOf ms (s.above d),7,none⟩=some (.slice a (s.at (s.above d)).kids.length c):=by
   rw [hm3,cell_at hm2.cells 7]
   show some m.sl=_
   rw [hac];rfl
  unfold ptrTo at ci
  clear hm1 hm2 hm3 hac
  cases h2:s.complete (d+1) with
  | true =>
   have e1:Hid (s.fits d=decide (((s.at (s.above d)).kids.length:Int)<roomM (s.at (s.above d)).kind)):=by apply hide;simp [PS.fits,h1,h2]
   have H2:=hide h2
   clear h2
   go_enter Tryz.func113,Tryz.ntmps113
   go_wp2_with (first|(go_at_call 62;refine (completeFrom_any _ ρ pb s ms cv Hp.out Ht.out Hok.out (d+1) h1).mono ?_;rw [H2.out];rintro e wx ⟨rfl,hw⟩;have hw:=hw.symm;subst hw)|(go_at_call 115;refine (room_any _ _).mono ?_;rintro e wx ⟨rfl,hw⟩;have hw:=hw.symm;subst hw))
   go_ret
   exact⟨by rw [e1.out];rfl,rfl⟩
  | false =>
   have e1:Hid (s.fits d=false):=by apply hide;simp [PS.fits,h2]
   have H2:=hide h2
   clear h2
   go_enter Tryz.func113,Tryz.ntmps113
   go_wp2_with (first|(go_at_call 62;refine (completeFrom_any _ ρ pb s ms cv Hp.out Ht.out Hok.out (d+1) h1).mono ?_;rw [H2.out];rintro e wx ⟨rfl,hw⟩;have hw:=hw.symm;subst hw))
   go_ret
   exact⟨by rw [e1.out];rfl,rfl⟩
 ·have e1:Hid (s.fits d=false):=by apply hide;simp [PS.fits,h1]
  have h1':(s.chain.length:Int)≤(d:Int):=by omega
  clear h1
  go_enter Tryz.func113,Tryz.ntmps113
  go_wp2_with fail
  go_ways
  go_ret
  exact⟨by rw [e1.out];rfl,rfl⟩
end Go.Proofs.YtnhidaamfnjdjaaGreatDoor
namespace Go.Proofs.YtnhidaamfnjdjaaGreatDoor
open Go.RowKit
def StateAt (base q:Nat) (w:World) (pb:Nat) (s:PS):Prop :=
 ∃ ρ ms cv,TreeAt w ρ s.nodes ms∧ParserAt w ρ pb s.chain ms cv∧(∀ k,(k<base∨k=q)->ρ k=.junk)∧base≤w.heap.size∧q<w.heap.size∧blkOf ms 0=base
theorem StateAt.below {base q:Nat} {w w':World} {pb:Nat} {s:PS} (h:StateAt base q w pb s) (hb:Below w.heap.size w w'):StateAt base q w' pb s:=by
 obtain⟨ρ,ms,cv,ht,hp,hj,hbs,hq,hb0⟩:=h
 exact⟨ρ,ms,cv,ht.frame hb.size (fun b i hlt _=>⟨hb.block b hlt,rfl⟩),hp.frame (fun b hlt _=>⟨hb.block b hlt,rfl⟩),hj,Nat.le_trans hbs hb.size,Nat.lt_of_lt_of_le hq hb.size,hb0⟩
set_option maxHeartbeats 1000000 in
theorem add_blank (w:World) (pb:Nat) (line:Bs) (number:Int) (h1:trimB line=[]) :
  Calls Tryz.prog 61 #[.pointer (some ⟨pb,0,none⟩),.string ⟨line.toArray⟩,.int .i64 number] w fun e w'=>e=.returned (.int .i64 0)∧w'=w:=by
 unfold trimB at h1
 have H1:=hide h1
 clear h1
 go_enter Tryz.func61,Tryz.ntmps61
 go_wp2_with (go_at_call 112;refine (Tryz.strings_TrimLeft_one _ _ (by decide) _).mono ?_;dsimp only;rw [H1.out];rintro e w' ⟨rfl,rfl⟩)
 go_ret
 exact⟨rfl,rfl⟩
set_option maxHeartbeats 1000000 in
theorem add_deep (w:World) (pb:Nat) (line:Bs) (number:Int) (hl:line.length≤800) (h1:trimB line≠[]) (h2:10<(line.length - (trimB line).length) / 2) :
  Calls Tryz.prog 61 #[.pointer (some ⟨pb,0,none⟩),.string ⟨line.toArray⟩,.int .i64 number] w fun e w'=>e=.returned (.int .i64 3)∧w'=w:=by
 have hle:=trimB_le line
 unfold trimB at h1 h2 hle
 generalize hb:Lib.trimLeftB line 32=body at h1 h2 hle
 have Hb:=hide hb
 have h1':body.isEmpty=false:=by cases body with
  | nil=>exact absurd rfl h1
  | cons a l=>rfl
 have h3:(10:Int)<((line.length:Int) - (body.length:Int)) / 2:=by omega
 clear h1 h2 hb
 go_enter Tryz.func61,Tryz.ntmps61
 go_wp2_with (go_at_call 112;refine (Tryz.strings_TrimLeft_one _ _ (by decide) _).mono ?_;dsimp only;rw [Hb.out];rintro e w' ⟨rfl,rfl⟩)
 go_ret
 exact⟨rfl,rfl⟩
set_option maxHeartbeats 1000000 in
theorem add_wrong (w:World) (ρ:Nat->Role) (pb:Nat) (s:PS) (ms:List NM) (cv:Value) (hp:ParserAt w ρ pb s.chain ms cv) (ht:TreeAt w ρ s.nodes ms) (ok:s.Ok) (line:Bs) (number:Int) (hl:line.length≤800) (h1:trimB line≠[]) (h2:¬ 10<(line.length - (trimB line).length) / 2)
  (h3:(line.length - (trimB line).length) % 2≠0∨s.fits ((line.length - (trimB line).length) / 2)=false) :
  Calls Tryz.prog 61 #[.pointer (some ⟨pb,0,none⟩),.string ⟨line.toArray⟩,.int .i64 number] w fun e w'=>e=.returned (.int .i64 2)∧w'=w:=by
 have hle:=trimB_le line
 unfold trimB at h1 h2 h3 hle
 generalize hb:Lib.trimLeftB line 32=body at h1 h2 h3 hle
 have Hb:=hide hb
 have h1':body.isEmpty=false:=by cases body with
  | nil=>exact absurd rfl h1
  | cons a l=>rfl
 have h2':¬ (10:Int)<((line.length:Int) - (body.length:Int)) / 2:=by omega
 have Hp:=hide hp;have Ht:=hide ht;have Hok:=hide ok
 by_cases ho:(line.length - body.length) % 2=0
 ·have h4:s.fits ((line.length - body.length) / 2)=false:=by rcases h3 with h|h;exact absurd ho h;exact h
  have H4:=hide h4
  have ho':((((line.length:Int) - (body.length:Int)) % 2) != 0)=false:=by simp;omega
  have hd:(line.length - body.length) / 2≤10:=by omega
  have hcast:((line.length:Int) - (body.length:Int)) / 2=(((line.length - body.length) / 2:Nat):Int):=by omega
  have Hcast:=hide hcast
  clear h1 h2 hb h3 h4 hp ht ok ho hcast
  go_enter Tryz.func61,Tryz.ntmps61
  go_wp2_with (first|(go_at_call 112;refine (Tryz.strings_TrimLeft_one _ _ (by decide) _).mono ?_;dsimp only;rw [Hb.out];rintro e w' ⟨rfl,hw⟩;have hw:=hw.symm;subst hw)|(go_at_call 113;rw [Hcast.out];refine (fits_any _ ρ pb s ms cv Hp.out Ht.out Hok.out _ hd).mono ?_;rw [H4.out];rintro e w' ⟨rfl,hw⟩;have hw:=hw.symm;subst hw))
  go_ret
  exact⟨rfl,rfl⟩
 ·have ho':((((line.length:Int) - (body.length:Int)) % 2) != 0)=true:=by simp;omega
  clear h1 h2 hb h3 hp ht ok ho
  go_enter Tryz.func61,Tryz.ntmps61
  go_wp2_with (go_at_call 112;refine (Tryz.strings_TrimLeft_one _ _ (by decide) _).mono ?_;dsimp only;rw [Hb.out];rintro e w' ⟨rfl,rfl⟩)
  go_ret
  exact⟨rfl,rfl⟩
end Go.Proofs.YtnhidaamfnjdjaaGreatDoor
namespace Go.Proofs.YtnhidaamfnjdjaaGreatDoor
open Go.RowKit
theorem mid_old {w w1 w4:World} {b:Nat} {number:Value} {O4:Obj} {slb:Option Nat} (h1:Below w.heap.size w w1) (hb:w.heap.size≤b)
  (g4:((w1.setCell ⟨b,1,none⟩ number).alloc O4).grownBy w4 slb):∀ k,k<w.heap.size->some k≠slb->w4.heap[k]?=w.heap[k]?:=by
 intro k hk hne
 have hz:=h1.size
 rw [g4.block k (by simp [World.setCell];omega) hne,Below.heap_alloc _ _ _ (by simp [World.setCell];omega),Below.heap_setCell _ _ _ _ (by simp;omega)]
 exact h1.block k hk
theorem add_final {w w1 w4 w7:World} {ρ:Nat->Role} {s:PS} {ms:List NM} (ok:s.Ok) (ht:TreeAt w ρ s.nodes ms) {pb:Nat} {cv:Value} (hp:ParserAt w ρ pb s.chain ms cv)
  {d:Nat} (hd:d<s.chain.length) {mA:NM} (hmA:ms[s.above d]?=some mA) (r:LP) (number:Int) {b mid:Nat} {ve:Option Addr} {v' cv':Value} {g:Nat} (hcg:cv.ownBlock=some g)
  (h1:Below w.heap.size w w1) (l1:w.heap.size≤mid) (l2:mid≤b) (l3:b<w1.heap.size)
  (hbc:w1.heap[b]?=some (.cells #[.int .i64 r.kind,.int .i64 0,.string ⟨r.name.toArray⟩,.int .i64 0,.string ⟨r.chan.toArray⟩,.int .i64 0,.pointer ve,.slice none 0 0] 115))
  (re:RepE w1 r.expr w.heap.size mid ve) {O4 O7:Obj}
  (g4:((w1.setCell ⟨b,1,none⟩ (.int .i64 number)).alloc O4).grownBy w4 mA.sl.ownBlock)
  (o4:w4.ownsRow 0 54 1 v' ((s.at (s.above d)).kids.length+1) ((s.at (s.above d)).kids.map (ptrTo ms)++[.pointer (some ⟨b,0,none⟩)]))
  (b4:v'.ownBlock=mA.sl.ownBlock∨∃ g,v'.ownBlock=some g∧w1.heap.size+1≤g)
  (g7:((w4.setCell ⟨mA.blk,7,none⟩ v').alloc O7).grownBy w7 (some g))
  (o7:w7.ownsRow 0 54 1 cv' (d+2) ((s.chain.take (d+1)).map (ptrTo ms)++[.pointer (some ⟨b,0,none⟩)]))
  (b7:cv'.ownBlock=some g∨∃ g',cv'.ownBlock=some g'∧w4.heap.size+1≤g')
  (base q:Nat) (hbase:base≤w.heap.size) (hq:q<w.heap.size) (hj:∀ k,(k<base∨k=q)->ρ k=.junk) (hb0:blkOf ms 0=base) :
  StateAt base q (w7.setCell ⟨pb,0,none⟩ cv') pb (s.put d r number)∧Below base w (w7.setCell ⟨pb,0,none⟩ cv')∧(w7.setCell ⟨pb,0,none⟩ cv').heap[q]?=w.heap[q]?:=by
 have hA:=ok.above hd
 have hnA:s.nodes[s.above d]?=some (s.at (s.above d)):=by unfold PS.at;rw [getD_lt _ _ _ hA];simp [hA]
 have hNA:=ht.at' _ _ _ hnA hmA
 have hlA:=lt_of_at hNA.cells
 have hlp:=lt_of_at hp.cells
 have hlg:=(hp.own.lt g hcg).2
 have hrg:=hp.carole g hcg
 have z1:=h1.size
 have z4:w1.heap.size+1≤w4.heap.size:=by have:=g4.size;simpa [World.setCell] using this
 have z7:w4.heap.size+1≤w7.heap.size:=by have:=g7.size;simpa [World.setCell] using this
 have old4:=mid_old h1 (Nat.le_trans l1 l2) g4
 -- a block of the line that was read
 have line4:∀ k,w.heap.size≤k->k<w1.heap.size->w4.heap[k]?=(w1.setCell ⟨b,1,none⟩ (.int .i64 number)).heap[k]?:=by
  intro k hk hk1
  rw [g4.block k (by simp [World.setCell];omega) (by
   intro e
   have:=(hNA.own.lt k e.symm).2
   omega),Below.heap_alloc _ _ _ (by simp [World.setCell];omega)]
 -- from the fourth world to the last
 have to7:∀ k,k<w4.heap.size->k≠mA.blk->k≠g->k≠pb->(w7.setCell ⟨pb,0,none⟩ cv').heap[k]?=w4.heap[k]?:=by
  intro k hk h1 h2 h3
  rw [Below.heap_setCell _ _ _ _ (by simpa using h3),g7.block k (by simp [World.setCell];omega) (by simpa using h2),Below.heap_alloc _ _ _ (by simp [World.setCell];omega),Below.heap_setCell _ _ _ _ (by simpa using h1)]
 have neA:mA.blk≠g:=by intro e;have:=hNA.role;rw [e,hrg] at this;cases this
 have neP:mA.blk≠pb:=by intro e;have:=hNA.role;rw [e,hp.role] at this;cases this
 have nePg:pb≠g:=by intro e;have:=hp.role;rw [e,hrg] at this;cases this
 have sA:some mA.blk≠mA.sl.ownBlock:=by intro e;have:=hNA.arrole _ e.symm;rw [hNA.role] at this;cases this
 have sP:some pb≠mA.sl.ownBlock:=by intro e;have:=hNA.arrole _ e.symm;rw [hp.role] at this;cases this
 have sG:some g≠mA.sl.ownBlock:=by intro e;have:=hNA.arrole _ e.symm;rw [hrg] at this;cases this
 have hF1:∀ k,k<w.heap.size->ρ k≠.node (s.above d)->ρ k≠.arr (s.above d)->ρ k≠.pars->ρ k≠.carr->(w7.setCell ⟨pb,0,none⟩ cv').heap[k]?=w.heap[k]?:=by
  intro k hk r1 r2 r3 r4
  rw [to7 k (by omega) (by rintro rfl;exact r1 hNA.role) (by rintro rfl;exact r4 hrg) (by rintro rfl;exact r3 hp.role)]
  exact old4 k hk (by intro e;exact r2 (hNA.arrole k e.symm))
 have v'blk:∀ k,v'.ownBlock=some k->k<w4.heap.size∧k≠mA.blk∧k≠g∧k≠pb:=by
  intro k hk
  refine⟨(o4.lt k hk).2,?_,?_,?_⟩
  all_goals
   rintro rfl
   rcases b4 with e|⟨k',e,hl⟩
   ·rw [e] at hk;first|exact sA hk.symm|exact sG hk.symm|exact sP hk.symm
   ·rw [e] at hk;injection hk with hk;omega
 have hz:w1.heap.size≤(w7.setCell ⟨pb,0,none⟩ cv').heap.size:=by simp [World.setCell];omega
 obtain⟨ρ',ms',t1,p1,j1,k1⟩:=put_tree (wf:=w7.setCell ⟨pb,0,none⟩ cv') ok ht hp hd hmA r number b mid w1.heap.size ve v' cv' l1 l2 l3 hz hF1
  (by
   rw [Below.heap_setCell _ _ _ _ (by simpa using neP),g7.block _ (by simp [World.setCell];omega) (by simpa using neA),Below.heap_alloc _ _ _ (by simp [World.setCell];omega)]
   have:=old4 mA.blk hlA sA
   rw [hNA.cells] at this
   exact at_setCell this 7 v')
  (by
   intro k hk hr
   exact hF1 k hk (by rw [hr];simp) (by rw [hr];simp) (by rw [hr];simp) (by rw [hr];simp))
  (ownsRow_frame o4 (fun k hk=>by obtain⟨a1,a2,a3,a4⟩:=v'blk k hk;exact to7 k a1 a2 a3 a4))
  (by
   rcases b4 with e|⟨k,e,hl⟩
   ·exact .inl e
   ·exact .inr ⟨k,e,by omega⟩)
  (by
   rw [to7 b (by omega) (by omega) (by omega) (by omega),line4 b (by omega) l3]
   exact at_setCell hbc 1 _)
  (re.frame (fun k a c=>by
   rw [to7 k (by omega) (by omega) (by omega) (by omega),line4 k a (by omega),Below.heap_setCell _ _ _ _ (by simp;omega)]))
  (by
   have h4:=old4 pb hlp sP
   rw [hp.cells] at h4
   have h7:w7.heap[pb]?=some (.cells #[cv] 118):=by
    rw [g7.block pb (by simp [World.setCell];omega) (by simpa using nePg),Below.heap_alloc _ _ _ (by simp [World.setCell];omega),Below.heap_setCell _ _ _ _ (by simpa using neP.symm)]
    exact h4
   exact at_setCell h7 0 cv')
  (ownsRow_frame o7 (fun k hk=>by
   refine Below.heap_setCell _ _ _ _ ?_
   rcases b7 with e|⟨k',e,hl⟩
   ·rw [e] at hk;injection hk with hk;subst hk;simpa using nePg.symm
   ·rw [e] at hk;injection hk with hk;subst hk;simp;omega))
  (by
   rcases b7 with e|⟨k',e,hl⟩
   ·exact .inl (e.trans hcg.symm)
   ·refine .inr ⟨k',e,by omega,?_⟩
    intro e2
    have:=(o4.lt k' e2).2
    omega)
  (fun k=>k<base∨k=q) (fun k hk=>by rcases hk with h|h <;> omega) hj
 refine⟨⟨ρ',ms',cv',t1,p1,j1,by omega,by omega,by rw [k1 0 (by omega)];exact hb0⟩,⟨?_,?_,?_,?_,?_⟩,?_⟩
 ·show w7.os=w.os
  rw [g7.os];show w4.os=_;rw [g4.os];exact h1.os
 ·show w7.tape=w.tape
  rw [g7.tape];show w4.tape=_;rw [g4.tape];exact h1.tape
 ·show w7.output=w.output
  rw [g7.output];show w4.output=_;rw [g4.output];exact h1.output
 ·simp [World.setCell];omega
 ·intro k hk
  have:=hj k (.inl hk)
  exact hF1 k (by omega) (by rw [this];simp) (by rw [this];simp) (by rw [this];simp) (by rw [this];simp)
 ·have:=hj q (.inr rfl)
  exact hF1 q hq (by rw [this];simp) (by rw [this];simp) (by rw [this];simp) (by rw [this];simp)
end Go.Proofs.YtnhidaamfnjdjaaGreatDoor
namespace Go.Proofs.YtnhidaamfnjdjaaGreatDoor
open Go.RowKit
theorem new_cell (w:World) (n:Nat) (h:w.heap.size=n) (x:Value) (t:TypeId):(w.alloc (.cells #[x] t)).cell? ((⟨n,0,none⟩:Addr).add 0)=some x:=by
 subst h
 have e:(⟨w.heap.size,0,none⟩:Addr).add 0=⟨w.heap.size,0,none⟩:=by simp [Addr.add]
 rw [e]
 exact cell_at (at_new _ _) 0
theorem size_setCell (w:World) (a:Addr) (v:Value):(w.setCell a v).heap.size=w.heap.size:=by simp [World.setCell]
set_option maxHeartbeats 1000000 in
theorem add_read (w:World) (ρ:Nat->Role) (pb:Nat) (s:PS) (ms:List NM) (cv:Value) (hp:ParserAt w ρ pb s.chain ms cv) (ht:TreeAt w ρ s.nodes ms) (ok:s.Ok) (m:Int) (hm:w.cell? ⟨0,0,none⟩=some (.int .i64 m)) (base q:Nat) (hbase:base≤w.heap.size) (hq:q<w.heap.size) (hj:∀ k,(k<base∨k=q)->ρ k=.junk) (hb0:blkOf ms 0=base)
    (line:Bs) (number:Int) (hl:line.length≤800) (h1:trimB line≠[]) (d:Nat) (hdd:(line.length - (trimB line).length) / 2=d) (h2:d≤10) (h3:(line.length - (trimB line).length) % 2=0) (h4:s.fits d=true) (hKn:(s.at (s.above d)).kids.length≤100000)
    (r:LP×Int) (hr:readLineF (trimB line) (s.at (s.above d)).kind=r) :
    Calls Tryz.prog 61 #[.pointer (some ⟨pb,0,none⟩),.string ⟨line.toArray⟩,.int .i64 number] w fun e w' =>
      (r.2≠0->e=.returned (.int .i64 r.2)∧Below w.heap.size w w') ∧
      (r.2=0->e=.returned (.int .i64 0)∧StateAt base q w' pb (s.put d r.1 number)∧Below base w w'∧w'.heap[q]?=w.heap[q]?):=by
  have hle:=trimB_le line
  have hd:=PS.fits_lt h4
  have hA:=ok.above hd
  obtain⟨mA,hmA,hNA,hblk⟩:=ht.get hA
  obtain⟨sa,sc,hsl⟩:=ownsRow_len hNA.own
  have hpos:0<s.chain.length:=List.length_pos_iff.2 ok.pos
  obtain⟨g,cap,cur,hcv,hg,hc1,hc2,hc3,hc4⟩:=ownsRow_shape hp.own hpos
  have hsh:=ok.short
  have cp:w.cell? ⟨pb,0,none⟩=some cv:=cell_at hp.cells 0
  rw [hcv] at cp
  have ci:w.cell? ⟨g,d,none⟩=some (.pointer (some ⟨mA.blk,0,none⟩)):=by
    have:w.cell? ⟨g,d,none⟩=some (ptrTo ms (s.above d)):=by
      refine ownsRow_cell hg hc4 ?_
      simp [hd,PS.above]
    rw [this];unfold ptrTo;rw [hblk]
  have cA0:w.cell? ⟨mA.blk,0,none⟩=some (.int .i64 (s.at (s.above d)).kind):=cell_at hNA.cells 0
  generalize hb:trimB line=body at h1 h3 hle hr hdd
  have hbl:body.length≤800:=by omega
  have h1':body.isEmpty=false:=by cases body with
    | nil=>exact absurd rfl h1
    | cons a l=>rfl
  have hcast:((line.length:Int) - (body.length:Int)) / 2=(d:Int):=by omega
  have h2':¬ (10:Int)<(d:Int):=by omega
  have h3':((((line.length:Int) - (body.length:Int)) % 2) != 0)=false:=by simp;omega
  have hdc:(d:Int)<(s.chain.length:Int):=by omega
  have Hb:Hid (Lib.trimLeftB line 32=body):=hb
  have Hp:=hide hp;have Ht:=hide ht;have Hok:=hide ok;have Hm:=hide hm;have H4:=hide h4;have Hr:=hide hr;have HNA:=hide hNA
  have Hg:=hide hg;have Hc4:=hide hc4;have Hcv:=hide hcv;have Hsl:=hide hsl;have HmA:=hide hmA;have Hj:=hide hj;have Hb0:=hide hb0
  clear h1 hb h3 hp ht ok hm h4 hr hNA hg hc4 hcv hsl hblk hmA hj hdd hb0
  go_enter Tryz.func61,Tryz.ntmps61
  go_wp2_with (first|(go_at_call 112;refine (Tryz.strings_TrimLeft_one _ _ (by decide) _).mono ?_;dsimp only;rw [Hb.out];rintro e w' ⟨rfl,hw⟩;have hw:=hw.symm;subst hw)|(go_at_call 113;refine (fits_any _ ρ pb s ms cv Hp.out Ht.out Hok.out d h2).mono ?_;rw [H4.out];rintro e w' ⟨rfl,hw⟩;have hw:=hw.symm;subst hw))
  refine (readLine_any body m _ w hbl Hm.out).mono ?_
  rw [Hr.out]
  rintro e w1 ⟨b,rfl,rp,hb1⟩
  by_cases he:r.2=0
  · have he':(r.2 != 0)=false:=by simp [he]
    obtain⟨mid,ve,l1,l2,l3,hbc,re⟩:=rp
    have hbA:mA.blk<w.heap.size:=lt_of_at HNA.out.cells
    have hbP:pb<w.heap.size:=lt_of_at Hp.out.cells
    have fb:=fun i=>cell_at hbc i
    have gb:=fun i=>frozen_at hbc i
    have hA1:=Below.at hb1 HNA.out.cells hbA
    have hP1:=Below.at hb1 Hp.out.cells hbP
    have hA2:∀ v,(w1.setCell ⟨b,1,none⟩ v).heap[mA.blk]?=some (.cells (nodeCells (s.at (s.above d)) mA) 115):=fun v=>at_setCell_other hA1 (by omega) _ _
    have hP2:∀ v,(w1.setCell ⟨b,1,none⟩ v).heap[pb]?=some (.cells #[cv] 118):=fun v=>at_setCell_other hP1 (by omega) _ _
    have fA:∀ v,(w1.setCell ⟨b,1,none⟩ v).cell? ⟨mA.blk,7,none⟩=some (.slice sa (s.at (s.above d)).kids.length sc):=by
      intro v;rw [cell_at (hA2 v) 7];show some mA.sl=_;rw [Hsl.out];rfl
    have own2:∀ v,(w1.setCell ⟨b,1,none⟩ v).ownsRow 0 54 1 (.slice sa (s.at (s.above d)).kids.length sc) (s.at (s.above d)).kids.length ((s.at (s.above d)).kids.map (ptrTo ms)):=by
      intro v
      have h5:=HNA.out.own
      have h6:mA.sl=.slice sa (s.at (s.above d)).kids.length sc:=Hsl.out
      rw [h6] at h5
      refine ownsRow_frame h5 (fun k hk=>?_)
      have hlt:=(h5.lt k hk).2
      rw [Below.heap_setCell _ _ _ _ (by simp;omega)]
      exact hb1.block k hlt
    have HA1:=hide hA1;have HP1:=hide hP1;have HA2:=hide hA2;have HP2:=hide hP2;have Own2:=hide own2;have Hbc:=hide hbc;have Re:=hide re;have Hb1:=hide hb1
    have He:=hide he
    clear hA1 hP1 hA2 hP2 own2 hbc re hb1 he
    have hK:(s.at (s.above d)).kids.length≤100000:=hKn
    have hz1:=Hb1.out.size
    have hlg:=(Hp.out.own.lt g (by rw [Hcv.out];rfl)).2
    have hrg:=Hp.out.carole g (by rw [Hcv.out];rfl)
    go_wp2_with (first
      | (at_builtin
         refine wpList_append1 Tryz.underlying113 (z:=.pointer none) (bytes:=8) (by kernel_rfl) rfl (by decide) rfl _ _ rfl (.slice sa (s.at (s.above d)).kids.length sc) _ _ rfl ((Own2.out _).alloc _) ⟨w1.heap.size,0,none⟩ 1 (.pointer (some ⟨b,0,none⟩)) rfl (new_cell _ _ (size_setCell _ _ _) _ _) rfl hK ?_
         clear Own2 fA
         intro v' w4 o4 g4 b4
         obtain⟨va,vc,rfl⟩:=ownsRow_len o4
         have slb:(Value.slice sa (s.at (s.above d)).kids.length sc).ownBlock=mA.sl.ownBlock:=by rw [show mA.sl=.slice sa (s.at (s.above d)).kids.length sc from Hsl.out]
         rw [slb] at g4 b4
         have old4:=mid_old Hb1.out (Nat.le_trans l1 l2) g4
         have sA:some mA.blk≠mA.sl.ownBlock:=by intro e;have:=HNA.out.arrole _ e.symm;rw [HNA.out.role] at this;cases this
         have sP:some pb≠mA.sl.ownBlock:=by intro e;have:=HNA.out.arrole _ e.symm;rw [Hp.out.role] at this;cases this
         have sG:some g≠mA.sl.ownBlock:=by intro e;have:=HNA.out.arrole _ e.symm;rw [hrg] at this;cases this
         have hA4:=(old4 mA.blk hbA sA).trans HNA.out.cells
         have hP4:=(old4 pb hbP sP).trans Hp.out.cells
         have neP:pb≠mA.blk:=by intro e;have:=HNA.out.role;rw [<-e,Hp.out.role] at this;cases this
         have neG:g≠mA.blk:=by intro e;have:=HNA.out.role;rw [<-e,hrg] at this;cases this
         have fA4:w4.cell? ⟨mA.blk,7,none⟩=some mA.sl:=cell_at hA4 7
         have gA4:=fun i=>frozen_at hA4 i
         have fP5:∀ v,(w4.setCell ⟨mA.blk,7,none⟩ v).cell? ⟨pb,0,none⟩=some (.slice (some ⟨g,0,none⟩) s.chain.length cap):=by
           intro v
           rw [cell_at (at_setCell_other hP4 neP 7 v) 0,<-Hcv.out];rfl
         have own5:∀ v,(w4.setCell ⟨mA.blk,7,none⟩ v).ownsRow 0 54 1 (.slice (some ⟨g,0,none⟩) (d+1) cap) (d+1) ((s.chain.take (d+1)).map (ptrTo ms)):=by
           intro v
           refine⟨by simp;omega,.inr ⟨g,cap,cur,rfl,Nat.zero_le _,?_,by omega,hc2,by omega,?_⟩⟩
           · rw [Below.heap_setCell _ _ _ _ (by simpa using neG),old4 g hlg sG];exact Hg.out
           · have:=Hc4.out
             rw [List.map_take,<-this,List.take_take]
             congr 1
             omega
         have G4:=hide g4;have B4:=hide b4;have O4:=hide o4;have HA4:=hide hA4;have HP4:=hide hP4;have Own5:=hide own5;have Old4:=hide old4
         clear g4 b4 o4 hA4 hP4 own5 old4 slb)
      | (at_builtin
         refine wpList_append1 Tryz.underlying113 (z:=.pointer none) (bytes:=8) (by kernel_rfl) rfl (by decide) rfl _ _ rfl (.slice (some ⟨g,0,none⟩) (d+1) cap) _ _ rfl ((Own5.out _).alloc _) ⟨w4.heap.size,0,none⟩ 1 (.pointer (some ⟨b,0,none⟩)) rfl (new_cell _ _ (size_setCell _ _ _) _ _) rfl (by omega) ?_
         clear Own5 fP5
         intro cv' w7 o7 g7 b7
         obtain⟨ca,cc,rfl⟩:=ownsRow_len o7
         have nePg:pb≠g:=by intro e;have:=Hp.out.role;rw [e,hrg] at this;cases this
         have z4:w1.heap.size+1≤w4.heap.size:=by have:=G4.out.size;simpa [World.setCell] using this
         have hP7:w7.heap[pb]?=some (.cells #[cv] 118):=by
           rw [g7.block pb (by simp [World.setCell];omega) (by simpa [Value.ownBlock] using nePg),Below.heap_alloc _ _ _ (by simp [World.setCell];omega),Below.heap_setCell _ _ _ _ (by simpa using neP)]
           exact HP4.out
         have fP7:w7.cell? ⟨pb,0,none⟩=some cv:=cell_at hP7 0
         have gP7:=fun i=>frozen_at hP7 i
         have G7:=hide g7;have B7:=hide b7;have O7:=hide o7;have HP7:=hide hP7
         clear g7 b7 o7 hP7))
    go_ret
    have fin:=add_final Hok.out Ht.out Hp.out hd HmA.out r.1 number (by rw [Hcv.out];rfl) Hb1.out l1 l2 l3 Hbc.out Re.out G4.out O4.out (by simpa [World.setCell] using B4.out) G7.out O7.out (by simpa [World.setCell,Value.ownBlock] using B7.out) base q hbase hq Hj.out Hb0.out
    exact⟨fun h=>absurd He.out h,fun _=>⟨rfl,fin⟩⟩
  · have he':(r.2 != 0)=true:=by simp [he]
    have He:Hid (r.2≠0):=he
    clear he
    go_wp2
    go_ret
    exact⟨fun _=>⟨rfl,hb1⟩,fun h=>absurd h He.out⟩
end Go.Proofs.YtnhidaamfnjdjaaGreatDoor
namespace Go.Proofs.YtnhidaamfnjdjaaGreatDoor
open Go.RowKit
theorem add_any (base q:Nat) (w:World) (pb:Nat) (s:PS) (h:StateAt base q w pb s) (ok:s.Ok) (hN:s.nodes.length≤1000) (m:Int) (hm:w.cell? ⟨0,0,none⟩=some (.int .i64 m)) (line:Bs) (number:Int) (hl:line.length≤800) :
  Calls Tryz.prog 61 #[.pointer (some ⟨pb,0,none⟩),.string ⟨line.toArray⟩,.int .i64 number] w fun e w' =>
   e=.returned (.int .i64 (s.add line number).2)∧StateAt base q w' pb (s.add line number).1∧Below base w w'∧w'.heap[q]?=w.heap[q]?:=by
 obtain⟨ρ,ms,cv,ht,hp,hj,hbs,hq,hb0⟩:=id h
 by_cases h1:trimB line=[]
 ·have e1:s.add line number=(s,0):=by unfold PS.add;rw [if_pos h1]
  rw [e1]
  refine (add_blank w pb line number h1).mono ?_
  rintro e w' ⟨rfl,rfl⟩
  exact⟨rfl,h,Below.refl _ _,rfl⟩
 ·by_cases h2:10<(line.length - (trimB line).length) / 2
  ·have e1:s.add line number=(s,3):=by unfold PS.add;rw [if_neg h1,if_pos h2]
   rw [e1]
   refine (add_deep w pb line number hl h1 h2).mono ?_
   rintro e w' ⟨rfl,rfl⟩
   exact⟨rfl,h,Below.refl _ _,rfl⟩
  ·by_cases h3:(line.length - (trimB line).length) % 2≠0∨s.fits ((line.length - (trimB line).length) / 2)=false
   ·have e1:s.add line number=(s,2):=by unfold PS.add;rw [if_neg h1,if_neg h2,if_pos h3]
    rw [e1]
    refine (add_wrong w ρ pb s ms cv hp ht ok line number hl h1 h2 h3).mono ?_
    rintro e w' ⟨rfl,rfl⟩
    exact⟨rfl,h,Below.refl _ _,rfl⟩
   ·have h3':=h3
    simp only [not_or,Decidable.not_not] at h3'
    obtain⟨ho,hf⟩:=h3'
    have hf':s.fits ((line.length - (trimB line).length) / 2)=true:=by simpa using hf
    generalize hd:(line.length - (trimB line).length) / 2=d at *
    generalize hr:readLineF (trimB line) (s.at (s.above d)).kind=r
    have e1:s.add line number=if r.2≠0 then (s,r.2) else (s.put d r.1 number,0):=by
     unfold PS.add
     simp only [hd]
     rw [if_neg h1,if_neg h2,if_neg h3,hr]
    have hA:=ok.above (PS.fits_lt hf')
    have hmem:s.at (s.above d)∈s.nodes:=by unfold PS.at;rw [getD_lt _ _ _ hA];exact List.getElem_mem hA
    have hK:=ok.few _ hmem
    refine (add_read w ρ pb s ms cv hp ht ok m hm base q hbs hq hj hb0 line number hl h1 d hd (by omega) ho hf' (by omega) r hr).mono ?_
    rintro e w' ⟨ha,hb⟩
    by_cases he:r.2=0
    ·rw [e1,if_neg (by simpa using he)]
     exact hb he
    ·rw [e1,if_pos he]
     obtain⟨rfl,hbl⟩:=ha he
     exact⟨rfl,h.below hbl,hbl.mono hbs,hbl.block q hq⟩
theorem bytes_eta (b:ByteArray):(⟨b.data.toList.toArray⟩:ByteArray)=b:=by cases b;simp
theorem splitK_le (sep:Bs) (save:Nat) (hs:save=0):∀ (k:Nat) (s l:Bs),l∈Lib.splitK sep save k s->l.length≤s.length
 | 0,s,l,h=>by simp [Lib.splitK] at h;subst h;exact Nat.le_refl _
 | k+1,s,l,h=>by
  unfold Lib.splitK at h
  split at h
  ·simp at h;subst h;exact Nat.le_refl _
  ·simp only [List.mem_cons] at h
   rcases h with rfl|h
   ·simp;omega
   ·have:=splitK_le sep save hs k _ l h
    simp at this;omega
theorem linesF_le (text l:Bs) (h:l∈linesF text):l.length≤text.length:=splitK_le _ _ rfl _ _ _ h
theorem split_lines (text:Bs):(Lib.splitB ⟨#[10]⟩ 0 (Lib.countB ⟨text.toArray⟩ ⟨#[10]⟩) ⟨text.toArray⟩).map Value.string=(linesF text).map (fun l=>Value.string ⟨l.toArray⟩):=by
 have h:=Lib.splitB_data ⟨#[10]⟩ 0 (Lib.countB ⟨text.toArray⟩ ⟨#[10]⟩) ⟨text.toArray⟩
 have e:Lib.splitK (⟨#[10]⟩:ByteArray).data.toList 0 (Lib.countB ⟨text.toArray⟩ ⟨#[10]⟩) (⟨text.toArray⟩:ByteArray).data.toList=linesF text:=by
  unfold linesF Lib.split Lib.countB;simp
 rw [e] at h
 rw [<-h,List.map_map]
 apply List.map_congr_left
 intro b _
 show Value.string b=Value.string ⟨b.data.toList.toArray⟩
 rw [bytes_eta]
theorem split_count (text:Bs):Lib.countB ⟨text.toArray⟩ ⟨#[10]⟩+1=(linesF text).length:=by
 have h:=Lib.splitB_all ⟨#[10]⟩ (by decide) 0 _ ⟨text.toArray⟩ rfl
 have h2:=congrArg List.length (split_lines text)
 simp at h2
 omega
theorem start_state (w:World) (O:Obj) :
  StateAt w.heap.size (w.heap.size+3) ((((w.alloc (.cells #[.int .i64 0,.int .i64 0,.string ⟨#[]⟩,.int .i64 0,.string ⟨#[]⟩,.int .i64 0,.pointer none,.slice none 0 0] 115)).alloc (.cells #[.pointer (some ⟨w.heap.size,0,none⟩)] 54)).alloc (.cells #[.slice (some ⟨w.heap.size+1,0,none⟩) 1 1] 118)).alloc O) (w.heap.size+2) startP:=by
 have a0:=at_alloc (at_alloc (at_alloc (at_new w (.cells #[.int .i64 0,.int .i64 0,.string ⟨#[]⟩,.int .i64 0,.string ⟨#[]⟩,.int .i64 0,.pointer none,.slice none 0 0] 115)) (.cells #[.pointer (some ⟨w.heap.size,0,none⟩)] 54)) (.cells #[.slice (some ⟨w.heap.size+1,0,none⟩) 1 1] 118)) O
 have a1:=at_alloc (at_alloc (at_new (w.alloc (.cells #[.int .i64 0,.int .i64 0,.string ⟨#[]⟩,.int .i64 0,.string ⟨#[]⟩,.int .i64 0,.pointer none,.slice none 0 0] 115)) (.cells #[.pointer (some ⟨w.heap.size,0,none⟩)] 54)) (.cells #[.slice (some ⟨w.heap.size+1,0,none⟩) 1 1] 118)) O
 have a2:=at_alloc (at_new ((w.alloc (.cells #[.int .i64 0,.int .i64 0,.string ⟨#[]⟩,.int .i64 0,.string ⟨#[]⟩,.int .i64 0,.pointer none,.slice none 0 0] 115)).alloc (.cells #[.pointer (some ⟨w.heap.size,0,none⟩)] 54)) (.cells #[.slice (some ⟨w.heap.size+1,0,none⟩) 1 1] 118)) O
 simp only [World.size_alloc] at a1 a2
 refine⟨fun k=>if k=w.heap.size then .node 0 else if k=w.heap.size+1 then .carr else if k=w.heap.size+2 then .pars else .junk,[⟨w.heap.size,none,0,0,.slice none 0 0⟩],.slice (some ⟨w.heap.size+1,0,none⟩) 1 1,⟨rfl,?_⟩,⟨a2,?_,?_,?_⟩,?_,?_,?_,rfl⟩
 ·intro i n m hn hm
  cases i with
  | zero =>
   simp [startP] at hn hm
   subst hn;subst hm
   exact⟨a0,by simp,⟨Nat.le_refl _,rfl⟩,fun b _ hb=>absurd hb (by simp),by simp,World.ownsRow_nil _ _ _ _,by simp [Value.ownBlock]⟩
  | succ i=>simp [startP] at hn
 ·simp
 ·refine⟨rfl,.inr ⟨w.heap.size+1,1,_,rfl,Nat.zero_le _,a1,by decide,by decide,rfl,?_⟩⟩
  simp [startP,ptrTo,blkOf]
 ·intro g hg
  simp [Value.ownBlock] at hg
  subst hg;simp
 ·intro k hk
  rcases hk with hk|hk
  ·simp only [];rw [if_neg (by omega),if_neg (by omega),if_neg (by omega)]
  ·simp only [];rw [if_neg (by omega),if_neg (by omega),if_neg (by omega)]
 ·simp;omega
 ·simp
end Go.Proofs.YtnhidaamfnjdjaaGreatDoor
namespace Go.Proofs.YtnhidaamfnjdjaaGreatDoor
open Go.RowKit
def TextPost (w:World) (text:Bs) (e:Ending) (w':World):Prop :=
 ∃ v,e=.returned (.tuple #[.pointer v,.int .i64 (parseF text (linesF text)).2.1,.int .i64 (parseF text (linesF text)).2.2])∧Below w.heap.size w w' ∧
  ∀ s,(parseF text (linesF text)).1=some s->∃ ρ ms,TreeAt w' ρ s.nodes ms∧(∀ k,k<w.heap.size->ρ k=.junk)∧v=some ⟨blkOf ms (rootOf s),0,none⟩
set_option maxHeartbeats 1000000 in
theorem text_long (text:Bs) (w:World) (hs:text.length≤9223372036854775807) (hl:800<text.length):Calls Tryz.prog 42 #[.string ⟨text.toArray⟩] w (TextPost w text):=by
 have e1:parseF text (linesF text)=(none,1,0):=by unfold parseF;rw [if_pos hl]
 unfold TextPost
 rw [e1]
 have hl':(800:Int)<(text.length:Int):=by omega
 clear e1
 go_enter Tryz.func42,Tryz.ntmps42
 go_wp2_with fail
 go_ret3
 exact⟨none,rfl,Below.refl _ _,fun s h=>by cases h⟩
set_option maxHeartbeats 1000000 in
theorem text_short (text:Bs) (w:World) (hl:text.length≤800) (m:Int) (hm:w.cell? ⟨0,0,none⟩=some (.int .i64 m)):Calls Tryz.prog 42 #[.string ⟨text.toArray⟩] w (TextPost w text):=by
 have hl':¬ (800:Int)<(text.length:Int):=by omega
 have hle:=linesF_le text
 have hcnt:=split_count text
 have hmap:=split_lines text
 unfold TextPost
 generalize hP:parseF text (linesF text)=P
 generalize hLs:linesF text=ls at *
 have hn0:1≤ls.length:=by omega
 have hn1:ls.length≤801:=by
  have:=Lib.countB_le ⟨#[10]⟩ (by decide) text.length ⟨text.toArray⟩ (by simp [ByteArray.size])
  simp [ByteArray.size] at this
  omega
 have HP:=hide hP;have Hm:=hide hm;have Hle:=hide hle;have Hcnt:=hide hcnt;have Hmap:=hide hmap;have Hl:=hide hl
 have h0:0<w.heap.size:=by
  rcases Nat.lt_or_ge 0 w.heap.size with h|h
  ·exact h
  ·simp [World.cell?,Array.getElem?_eq_none h] at hm
 clear hP hm hle hcnt hmap hLs hl
 go_enter Tryz.func42,Tryz.ntmps42
 go_wp2_with fail
 refine (Tryz.strings_Split ⟨text.toArray⟩ ⟨#[10]⟩ m _ (by have:=Hl.out;simp [ByteArray.size];omega) (by
  have b0:Below w.heap.size w (((w.alloc (.cells #[.int .i64 0,.int .i64 0,.string ⟨#[]⟩,.int .i64 0,.string ⟨#[]⟩,.int .i64 0,.pointer none,.slice none 0 0] 115)).alloc (.cells #[.pointer (some ⟨w.heap.size,0,none⟩)] 54)).alloc (.cells #[.slice (some ⟨w.heap.size+1,0,none⟩) 1 1] 118)):=(((Below.refl _ _).alloc (Nat.le_refl _) _).alloc (by simp) _).alloc (by simp;omega) _
  rw [b0.cell (p:=⟨0,0,none⟩) h0];exact Hm.out) (by decide)).mono ?_
 rintro e w' ⟨rfl,rfl⟩
 rw [Hmap.out,Hcnt.out]
 have st:=start_state w (.cells (ls.map fun l=>Value.string ⟨l.toArray⟩).toArray 9)
 have bb:Below w.heap.size w ((((w.alloc (.cells #[.int .i64 0,.int .i64 0,.string ⟨#[]⟩,.int .i64 0,.string ⟨#[]⟩,.int .i64 0,.pointer none,.slice none 0 0] 115)).alloc (.cells #[.pointer (some ⟨w.heap.size,0,none⟩)] 54)).alloc (.cells #[.slice (some ⟨w.heap.size+1,0,none⟩) 1 1] 118)).alloc (.cells (ls.map fun l=>Value.string ⟨l.toArray⟩).toArray 9)):=((((Below.refl _ _).alloc (Nat.le_refl _) _).alloc (by simp) _).alloc (by simp;omega) _).alloc (by simp;omega) _
 have aq:=at_new (((w.alloc (.cells #[.int .i64 0,.int .i64 0,.string ⟨#[]⟩,.int .i64 0,.string ⟨#[]⟩,.int .i64 0,.pointer none,.slice none 0 0] 115)).alloc (.cells #[.pointer (some ⟨w.heap.size,0,none⟩)] 54)).alloc (.cells #[.slice (some ⟨w.heap.size+1,0,none⟩) 1 1] 118)) (.cells (ls.map fun l=>Value.string ⟨l.toArray⟩).toArray 9)
 simp only [World.size_alloc] at aq
 have St:=hide st;have Bb:=hide bb;have Aq:=hide aq
 clear st bb aq
 generalize (((w.alloc (.cells #[.int .i64 0,.int .i64 0,.string ⟨#[]⟩,.int .i64 0,.string ⟨#[]⟩,.int .i64 0,.pointer none,.slice none 0 0] 115)).alloc (.cells #[.pointer (some ⟨w.heap.size,0,none⟩)] 54)).alloc (.cells #[.slice (some ⟨w.heap.size+1,0,none⟩) 1 1] 118)).alloc (.cells (ls.map fun l=>Value.string ⟨l.toArray⟩).toArray 9)=w1 at St Bb Aq ⊢
 simp only [World.size_alloc]
 go_wp2_with fail
 go_loopw [8,9,10,24] (fun _ _ _ i wr=>∃ k:Nat,k≤ls.length∧i=.int .i64 k∧StateAt w.heap.size (w.heap.size+3) wr (w.heap.size+2) (upTo ls k)∧Below w.heap.size w wr∧wr.heap[w.heap.size+3]?=some (.cells (ls.map fun l=>Value.string ⟨l.toArray⟩).toArray 9)∧∀ j,j<k->errAt ls j=0) (fun _ _ _ i _=>ls.length - (intOf i).toNat)
 case atStart=>exact⟨0,Nat.zero_le _,rfl,St.out,Bb.out,Aq.out,fun j hj=>by omega⟩
 case round =>
  obtain⟨k,hk,rfl,st,bl,aq,he⟩:=hrel
  have Sr:=hide st;have Br:=hide bl;have Ar:=hide aq;have He:=hide he
  clear st bl aq he St Bb Aq
  by_cases hkn:k<ls.length
  ·have ci:wr.cell? ⟨w.heap.size+1+1+1,k,none⟩=some (.string ⟨(ls.getD k []).toArray⟩):=by
    have:=cell_at Ar.out k
    rw [show (⟨w.heap.size+1+1+1,k,none⟩:Addr)=⟨w.heap.size+3,k,none⟩ from rfl,this]
    simp [hkn]
   have hlk:(ls.getD k []).length≤800:=by
    have h1:=Hle.out (ls.getD k []) (by rw [getD_lt _ _ _ hkn];exact List.getElem_mem hkn)
    have:=Hl.out
    omega
   have hm1:wr.cell? ⟨0,0,none⟩=some (.int .i64 m):=by rw [Br.out.cell (p:=⟨0,0,none⟩) h0];exact Hm.out
   have Hm1:=hide hm1
   have hN:(upTo ls k).nodes.length≤1000:=by have:=upTo_len ls k;omega
   clear hm1
   go_wp2_with fail
   rw [show ls[k]=ls.getD k [] from (getD_lt _ _ _ hkn).symm]
   refine (add_any w.heap.size (w.heap.size+3) _ (w.heap.size+2) (upTo ls k) Sr.out (upTo_ok ls k) hN m Hm1.out (ls.getD k []) ((k:Int)+1) hlk).mono ?_
   rintro e w2 ⟨rfl,st2,bl2,aq2⟩
   have S2:=hide st2;have B2:=hide bl2;have A2:=hide aq2
   clear st2 bl2 aq2
   have ee:((upTo ls k).add (ls.getD k []) ((k:Int)+1)).2=errAt ls k:=rfl
   rw [ee]
   by_cases hz:errAt ls k=0
   ·have hz':(errAt ls k != 0)=false:=by simp [hz]
    have Hz:=hide hz
    clear hz ee
    go_wp2
    go_roundw
    case rel =>
     refine⟨k+1,by omega,by go_num,S2.out,Br.out.trans B2.out,A2.out.trans Ar.out,fun j hj=>?_⟩
     by_cases e:j=k
     ·subst e;exact Hz.out
     ·exact He.out j (by omega)
    case measure=>simp [intOf];omega
   ·have hz':(errAt ls k != 0)=true:=by simp [hz]
    have Hz:Hid (errAt ls k≠0):=hz
    clear hz ee
    go_wp2
    go_ret3
    have e1:=parseF_err text ls Hl.out k hkn He.out Hz.out
    rw [HP.out] at e1
    subst e1
    exact⟨none,rfl,Br.out.trans B2.out,fun s h=>by cases h⟩
  ·have hke:k=ls.length:=by omega
   obtain⟨ρ,ms,cv,ht,hp,hj,hb,hq,hb0⟩:=Sr.out
   have Hb0:=hide hb0
   clear hb0
   have Ht:=hide ht;have Hp:=hide hp;have Hj:=hide hj
   clear ht hp hj
   have hall:Hid (∀ i,i<ls.length->errAt ls i=0):=fun i hi=>He.out i (by omega)
   subst hke
   cases hc:(upTo ls ls.length).complete 0 with
   | false =>
    have e1:=parseF_open text ls Hl.out hall.out hc
    rw [HP.out] at e1
    have E1:=hide e1;have Hc:=hide hc
    clear e1 hc
    go_wp2_with (go_at_call 62;refine (completeFrom_any _ ρ _ (upTo ls ls.length) ms cv Hp.out Ht.out (upTo_ok ls _) 0 (Nat.zero_le _)).mono ?_;rw [Hc.out];rintro e wx ⟨rfl,hw⟩;have hw:=hw.symm;subst hw)
    go_ret3
    have e2:=E1.out
    subst e2
    exact⟨none,rfl,Br.out,fun s h=>by cases h⟩
   | true =>
    have e1:=parseF_done text ls Hl.out hall.out hc
    rw [HP.out] at e1
    have E1:=hide e1;have Hc:=hide hc
    have hr:=root_lt ls ls.length hc
    clear e1 hc
    have h0n:0<(upTo ls ls.length).nodes.length:=List.length_pos_iff.2 (upTo_first ls _).2.1
    obtain⟨m0,hm0,hN0,hk0⟩:=Ht.out.get h0n
    obtain⟨g,cap,cur,hsl,hg,hc1,hc2,hc3,hc4⟩:=ownsRow_shape hN0.own hr.1
    have hw0:m0.blk=w.heap.size:=hk0.symm.trans Hb0.out
    have c7:wr.cell? ⟨w.heap.size,7,none⟩=some (.slice (some ⟨g,0,none⟩) ((upTo ls ls.length).at 0).kids.length cap):=by
     rw [<-hw0,cell_at hN0.cells 7]
     show some m0.sl=_
     rw [hsl];rfl
    have cg:wr.cell? ⟨g,0,none⟩=some (.pointer (some ⟨blkOf ms (rootOf (upTo ls ls.length)),0,none⟩)):=by
     refine ownsRow_cell hg hc4 ?_
     have hr1:0<((upTo ls ls.length).nodes.getD 0 default).kids.length:=hr.1
     simp only [List.getElem?_map]
     rw [List.getElem?_eq_getElem hr1]
     show some (ptrTo ms _)=_
     unfold ptrTo rootOf PS.at
     rw [getD_lt _ _ _ hr1]
    have hr1:(0:Int)<(((upTo ls ls.length).at 0).kids.length:Int):=by have:=hr.1;omega
    clear hm0 hN0 hsl hg hc4 hk0 hw0 hr hc1 hc2 hc3
    go_wp2_with (go_at_call 62;refine (completeFrom_any _ ρ _ (upTo ls ls.length) ms cv Hp.out Ht.out (upTo_ok ls _) 0 (Nat.zero_le _)).mono ?_;rw [Hc.out];rintro e wx ⟨rfl,hw⟩;have hw:=hw.symm;subst hw)
    go_ret3
    have e2:=E1.out
    subst e2
    refine⟨_,rfl,Br.out,fun s h=>?_⟩
    injection h with h
    subst h
    exact⟨ρ,ms,Ht.out,fun k hk=>Hj.out k (.inl hk),rfl⟩
end Go.Proofs.YtnhidaamfnjdjaaGreatDoor
