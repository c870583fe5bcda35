import Derived.Test.YtnhidaamfnjdjaaGreatDoorZHeapT
import Derived.Test.YtnhidaamfnjdjaaGreatDoorZParsA
import Derived.Test.YtnhidaamfnjdjaaGreatDoorZPure
import Derived.Deep.RegionHeld3
namespace Go.Proofs.YtnhidaamfnjdjaaGreatDoor
open Go.RowKit Go.Maps
def insV (p:Int×Int):List Value:=[.int .i64 p.1,.int .i64 p.2]
def codeV (l:List (Int×Int)):List Value:=(l.map insV).flatten
def wayV (p:Int×Int×Int):List Value:=[.int .i64 p.1,.int .i64 p.2.1,.int .i64 p.2.2]
def waysV (l:List (Int×Int×Int)):List Value:=(l.map wayV).flatten
theorem codeV_append (l:List (Int×Int)) (x:Int×Int):codeV (l++[x])=codeV l++insV x:=by simp [codeV]
theorem waysV_append (l:List (Int×Int×Int)) (x:Int×Int×Int):waysV (l++[x])=waysV l++wayV x:=by simp [waysV]
theorem insInfo:(Tryz.prog.info? 105).map (fun i=>(i.zero,i.size,i.bytes))=some (some (.agg #[.int .i64 0,.int .i64 0]),2,16):=by kernel_rfl
theorem wayInfo:(Tryz.prog.info? 207).map (fun i=>(i.zero,i.size,i.bytes))=some (some (.agg #[.int .i64 0,.int .i64 0,.int .i64 0]),3,24):=by kernel_rfl
theorem insV_one (x:Int×Int):∀ u∈insV x,u.oneCell'=true:=by
 intro u hu;simp [insV] at hu;rcases hu with rfl|rfl <;> rfl
theorem wayV_one (x:Int×Int×Int):∀ u∈wayV x,u.oneCell'=true:=by
 intro u hu;simp [wayV] at hu;rcases hu with rfl|rfl|rfl <;> rfl
theorem row_new (w:World) (n:Nat) (h:w.heap.size=n) (cs:List Value) (t:TypeId):∀ (j:Nat) (u:Value),cs[j]?=some u->(w.alloc (.cells cs.toArray t)).cell? ((⟨n,0,none⟩:Addr).add j)=some u:=by
 subst h
 intro j u hj
 rw [add_at,cell_at (at_new w _)]
 simpa using hj
theorem bel_tr {n:Nat} {x y z:World} (h:Below n x y) (k:Below n y z):Below n x z:=⟨k.os.trans h.os,k.tape.trans h.tape,k.output.trans h.output,Nat.le_trans h.size k.size,fun i hi=>(k.block i hi).trans (h.block i hi)⟩
theorem own_lt {w:World} {base:Nat} {e:TypeId} {size:Nat} {v:Value} {n:Nat} {xs:List Value} (h:w.ownsRow base e size v n xs) {g:Nat} (hg:v.ownBlock=some g):g<w.heap.size:=by
 rcases h.2 with ⟨rfl,_⟩|⟨g',cap,cur,rfl,hb,hgg,rest⟩
 ·simp [Value.ownBlock] at hg
 ·simp [Value.ownBlock] at hg
  subst hg
  exact lt_of_at hgg
def makCells (s:CM) (vc vb:Value):Array Value:=#[vc,vb,.int .i64 s.room]
structure MkAt (w:World) (lo b:Nat) (s:CM) (vc vb:Value):Prop where
 blk:w.heap[b]?=some (.cells (makCells s vc vb) 159)
 code:w.ownsRow 0 105 2 vc s.code.length (codeV s.code)
 br:w.ownsRow 0 207 3 vb s.br.length (waysV s.br)
 cb:vc.ownBlock≠some b
 bb:vb.ownBlock≠some b
 cbr:∀ g,vc.ownBlock=some g->vb.ownBlock≠some g
 lb:lo≤b
 lc:∀ g,vc.ownBlock=some g->lo≤g
 lbr:∀ g,vb.ownBlock=some g->lo≤g
theorem MkAt.c0 {w:World} {lo b:Nat} {s:CM} {vc vb:Value} (h:MkAt w lo b s vc vb):w.cell? ⟨b,0,none⟩=some vc:=cell_at h.blk 0
theorem MkAt.c1 {w:World} {lo b:Nat} {s:CM} {vc vb:Value} (h:MkAt w lo b s vc vb):w.cell? ⟨b,1,none⟩=some vb:=cell_at h.blk 1
theorem MkAt.c2 {w:World} {lo b:Nat} {s:CM} {vc vb:Value} (h:MkAt w lo b s vc vb):w.cell? ⟨b,2,none⟩=some (.int .i64 s.room):=cell_at h.blk 2
structure MkFr (b:Nat) (vc vb vc' vb':Value) (w w':World):Prop where
 os:w'.os=w.os
 tape:w'.tape=w.tape
 output:w'.output=w.output
 size:w.heap.size≤w'.heap.size
 block:∀ g,g<w.heap.size->g≠b->vc.ownBlock≠some g->vb.ownBlock≠some g->w'.heap[g]?=w.heap[g]?
 nc:vc'.ownBlock=vc.ownBlock∨∃ g,vc'.ownBlock=some g∧w.heap.size≤g
 nb:vb'.ownBlock=vb.ownBlock∨∃ g,vb'.ownBlock=some g∧w.heap.size≤g
theorem MkFr.refl (b:Nat) (vc vb:Value) (w:World):MkFr b vc vb vc vb w w:=⟨rfl,rfl,rfl,Nat.le_refl _,fun _ _ _ _ _=>rfl,.inl rfl,.inl rfl⟩
theorem new_ne {v v':Value} {n g:Nat} (h:v'.ownBlock=v.ownBlock∨∃ g,v'.ownBlock=some g∧n≤g) (hg:g<n) (hv:v.ownBlock≠some g):v'.ownBlock≠some g:=by
 rcases h with e|⟨g',e,h2⟩
 ·rw [e];exact hv
 ·rw [e];intro x;injection x with x;omega
theorem new_tr {v v' v'':Value} {n m:Nat} (h:v'.ownBlock=v.ownBlock∨∃ g,v'.ownBlock=some g∧n≤g) (k:v''.ownBlock=v'.ownBlock∨∃ g,v''.ownBlock=some g∧m≤g) (hnm:n≤m):v''.ownBlock=v.ownBlock∨∃ g,v''.ownBlock=some g∧n≤g:=by
 rcases k with e|⟨g',e,h2⟩
 ·rw [e];exact h
 ·exact .inr ⟨g',e,by omega⟩
theorem MkFr.trans {b:Nat} {vc vb vc1 vb1 vc2 vb2:Value} {w w1 w2:World} (h:MkFr b vc vb vc1 vb1 w w1) (k:MkFr b vc1 vb1 vc2 vb2 w1 w2):MkFr b vc vb vc2 vb2 w w2 :=
 ⟨k.os.trans h.os,k.tape.trans h.tape,k.output.trans h.output,Nat.le_trans h.size k.size,fun g hg h1 h2 h3=>(k.block g (Nat.lt_of_lt_of_le hg h.size) h1 (new_ne h.nc hg h2) (new_ne h.nb hg h3)).trans (h.block g hg h1 h2 h3),new_tr h.nc k.nc h.size,new_tr h.nb k.nb h.size⟩
theorem MkFr.low {b lo:Nat} {s:CM} {vc vb vc' vb':Value} {w w':World} (h:MkFr b vc vb vc' vb' w w') (m:MkAt w lo b s vc vb):Below lo w w':=by
 have hb:=lt_of_at m.blk
 have:=m.lb
 exact⟨h.os,h.tape,h.output,h.size,fun g hg=>h.block g (by omega) (by omega) (fun e=>by have:=m.lc g e;omega) (fun e=>by have:=m.lbr g e;omega)⟩
def MkPost (lo b:Nat) (vc vb:Value) (w:World) (s':CM) (w':World):Prop:=∃ vc' vb',MkAt w' lo b s' vc' vb'∧MkFr b vc vb vc' vb' w w'
structure Held (w:World) (b:Nat) (vc vb:Value) (g:Nat):Prop where
 lt:g<w.heap.size
 nb:g≠b
 nc:vc.ownBlock≠some g
 nr:vb.ownBlock≠some g
theorem Held.next {w w':World} {b g:Nat} {vc vb vc' vb':Value} (h:Held w b vc vb g) (k:MkFr b vc vb vc' vb' w w'):Held w' b vc' vb' g∧w'.heap[g]?=w.heap[g]? :=
 ⟨⟨Nat.lt_of_lt_of_le h.lt k.size,h.nb,new_ne k.nc h.lt h.nc,new_ne k.nb h.lt h.nr⟩,k.block g h.lt h.nb h.nc h.nr⟩
theorem MkAt.grown {w w':World} {lo b:Nat} {s:CM} {vc vb:Value} (h:MkAt w lo b s vc vb) (hb:Below w.heap.size w w'):MkAt w' lo b s vc vb∧MkFr b vc vb vc vb w w' :=
 ⟨⟨by rw [hb.block b (lt_of_at h.blk)];exact h.blk,ownsRow_frame h.code (fun g hg=>hb.block g (own_lt h.code hg)),ownsRow_frame h.br (fun g hg=>hb.block g (own_lt h.br hg)),h.cb,h.bb,h.cbr,h.lb,h.lc,h.lbr⟩,hb.os,hb.tape,hb.output,hb.size,fun g hg _ _ _=>hb.block g hg,.inl rfl,.inl rfl⟩
theorem cadd_final {w w4:World} {lo b:Nat} {s:CM} {vc vb:Value} {O:Obj} {v':Value} {k a:Int} (h:MkAt w lo b s vc vb) (G4:(w.alloc O).grownBy w4 vc.ownBlock)
  (O4:w4.ownsRow 0 105 2 v' (s.code.length+1) (codeV s.code++insV (k,a))) (B4:v'.ownBlock=vc.ownBlock∨∃ g,v'.ownBlock=some g∧(w.alloc O).heap.size≤g)
  (Hv4:w4.heap[b]?=some (.cells (makCells s vc vb) 159)):MkAt (w4.setCell ⟨b,0,none⟩ v') lo b (s.add k a) v' vb∧MkFr b vc vb v' vb w (w4.setCell ⟨b,0,none⟩ v'):=by
 have hz:(w.alloc O).heap.size=w.heap.size+1:=by simp
 have hlb:=lt_of_at h.blk
 have hvb:v'.ownBlock≠some b:=by
  rcases B4 with e|⟨g,e,hg⟩
  ·rw [e];exact h.cb
  ·rw [e];intro x;injection x with x;omega
 have blk:∀ g,g<w.heap.size->vc.ownBlock≠some g->w4.heap[g]?=w.heap[g]?:=by
  intro g hg hne
  rw [G4.block g (by omega) (fun e=>hne e.symm)]
  exact Below.heap_alloc _ _ _ hg
 have nc:v'.ownBlock=vc.ownBlock∨∃ g,v'.ownBlock=some g∧w.heap.size≤g:=by
  rcases B4 with e|⟨g',e,hge⟩
  ·exact .inl e
  ·exact .inr ⟨g',e,by omega⟩
 refine⟨⟨at_setCell Hv4 0 v',?_,?_,hvb,h.bb,?_,h.lb,?_,h.lbr⟩,⟨G4.os,G4.tape,G4.output,?_,fun g hg h1 h2 h3=>?_,nc,.inl rfl⟩⟩
 ·show (w4.setCell ⟨b,0,none⟩ v').ownsRow 0 105 2 v' (s.code++[(k,a)]).length (codeV (s.code++[(k,a)]))
  rw [codeV_append,List.length_append,List.length_singleton]
  exact ownsRow_frame O4 (fun g hg=>Below.heap_setCell _ _ _ _ (fun e=>hvb (by rw [hg];exact congrArg some e)))
 ·refine ownsRow_frame h.br (fun g hg=>?_)
  rw [Below.heap_setCell _ _ _ _ (fun e=>h.bb (by rw [hg];exact congrArg some e))]
  exact blk g (own_lt h.br hg) (fun e=>h.cbr g e hg)
 ·intro g hg hgb
  exact new_ne nc (own_lt h.br hgb) (fun e=>h.cbr g e hgb) hg
 ·intro g hg
  rcases nc with e|⟨g',e,hge⟩
  ·exact h.lc g (by rw [<-e];exact hg)
  ·rw [e] at hg
   injection hg with hg
   have:=h.lb
   omega
 ·have:=G4.size
  have h2:(w4.setCell ⟨b,0,none⟩ v').heap.size=w4.heap.size:=by simp
  omega
 ·rw [Below.heap_setCell _ _ _ _ (fun e=>h1 e)]
  exact blk g hg h2
theorem MkAt.drew {w:World} {lo b:Nat} {s:CM} {vc vb:Value} (h:MkAt w lo b s vc vb):MkAt w.drew lo b s vc vb:=⟨h.blk,ownsRow_frame h.code (fun _ _=>rfl),ownsRow_frame h.br (fun _ _=>rfl),h.cb,h.bb,h.cbr,h.lb,h.lc,h.lbr⟩
theorem MkFr.drew {b:Nat} {vc vb vc' vb':Value} {w w':World} (h:MkFr b vc vb vc' vb' w w'):MkFr b vc vb vc' vb' w w'.drew:=⟨h.os,h.tape,h.output,h.size,h.block,h.nc,h.nb⟩
theorem cnext_cell {b n cc:Nat} {va:Option Addr} (w:World) (c0:w.cell? ⟨b,0,none⟩=some (.slice va n cc)):Calls Tryz.prog 155 #[.pointer (some ⟨b,0,none⟩)] w fun e w'=>e=.returned (.int .i64 n)∧w'=w:=by
 go_enter Tryz.func155,Tryz.ntmps155
 go_wp2_with fail
 go_ret
 exact⟨rfl,rfl⟩
theorem cnext_any {lo b:Nat} {s:CM} {vc vb:Value} (w:World) (h:MkAt w lo b s vc vb):Calls Tryz.prog 155 #[.pointer (some ⟨b,0,none⟩)] w fun e w'=>e=.returned (.int .i64 s.code.length)∧w'=w:=by
 have c0:=h.c0
 obtain⟨va,cc,rfl⟩:=ownsRow_len h.code
 clear h
 go_enter Tryz.func155,Tryz.ntmps155
 go_wp2_with fail
 go_ret
 exact⟨rfl,rfl⟩
set_option maxRecDepth 20000 in
set_option maxHeartbeats 1000000 in
theorem cadd_any {lo b:Nat} {s:CM} {vc vb:Value} (k a:Int) (w:World) (h:MkAt w lo b s vc vb) (hn:s.code.length+1≤1000000) :
  Calls Tryz.prog 82 #[.pointer (some ⟨b,0,none⟩),.int .i64 k,.int .i64 a] w fun e w'=>e=.returned (.int .i64 s.code.length)∧MkPost lo b vc vb w (s.add k a) w':=by
 have c0:=h.c0
 obtain⟨va,cc,rfl⟩:=ownsRow_len h.code
 have hlb:=lt_of_at h.blk
 have H:=hide h
 clear h
 have law:∀ (w4:World),(w.alloc (.cells #[.int .i64 k,.int .i64 a] 105)).grownBy w4 (Value.slice va s.code.length cc).ownBlock ->
   w4.heap[b]?=some (.cells (makCells s (.slice va s.code.length cc) vb) 159):=by
  intro w4 g4
  rw [g4.block b (by simp;omega) (fun e=>H.out.cb e.symm),Below.heap_alloc _ _ _ hlb]
  exact H.out.blk
 have Law:=hide law
 clear law
 go_enter Tryz.func82,Tryz.ntmps82
 go_wp2_with (first|(at_builtin;refine wpList_appendM (by decide) Tryz.underlying86 insInfo rfl (by decide) rfl _ _ rfl (.slice va s.code.length cc) s.code.length (codeV s.code) rfl (H.out.code.alloc _) ⟨w.heap.size,0,none⟩ 1 1 (insV (k,a)) rfl rfl (by exact row_new _ _ rfl _ _) (insV_one (k,a)) hn ?_;intro v' w4 o4 g4 b4;obtain⟨va',vc',rfl⟩:=ownsRow_len o4;have hv4:=Law.out _ g4;have f4:w4.cell? ⟨b,0,none⟩=some (.slice va s.code.length cc):=cell_at hv4 0;have z4:∀ i,w4.frozen? ⟨b,i,none⟩=false:=(fun i=>frozen_at hv4 i);have Fin:=hide (cadd_final H.out g4 o4 b4 hv4);clear o4 g4 b4 hv4)|(go_at_call 155;refine (cnext_any _ Fin.out.1).mono ?_;rintro e wx ⟨rfl,hw⟩;have hw:=hw.symm;subst hw))
 go_ret
 have el:(s.add k a).code.length=s.code.length+1:=by simp [CM.add]
 refine⟨?_,_,_,Fin.out.1,Fin.out.2⟩
 rw [el]
 have ew:wrap64 (((s.code.length+1:Nat):Int) - 1)=(s.code.length:Int):=by rw [IntWalk.wrap64_in _ (by omega)];omega
 rw [ew]
 rfl
end Go.Proofs.YtnhidaamfnjdjaaGreatDoor
namespace Go.Proofs.YtnhidaamfnjdjaaGreatDoor
open Go.RowKit Go.Maps
def QAt (w:World) (e:TypeId) (v:Value) (xs:List Value):Prop :=
 (v=.slice none 0 0∧xs=[])∨∃ g off cap cur,v=.slice (some ⟨g,off,none⟩) xs.length cap∧w.heap[g]?=some (.cells cur e)∧xs.length≤cap∧cap≤maxLen∧off+cap≤cur.size∧(cur.toList.drop off).take xs.length=xs
theorem QAt.nil (w:World) (e:TypeId):QAt w e (.slice none 0 0) []:=.inl ⟨rfl,rfl⟩
theorem QAt.frame {w w':World} {e:TypeId} {v:Value} {xs:List Value} (h:QAt w e v xs) (hf:∀ g,v.ownBlock=some g->w'.heap[g]?=w.heap[g]?):QAt w' e v xs:=by
 rcases h with h|⟨g,off,cap,cur,rfl,hg,h1,h2,h3,h4⟩
 ·exact .inl h
 ·exact .inr ⟨g,off,cap,cur,rfl,by rw [hf g rfl];exact hg,h1,h2,h3,h4⟩
theorem QAt.lt {w:World} {e:TypeId} {v:Value} {xs:List Value} (h:QAt w e v xs) {g:Nat} (hg:v.ownBlock=some g):g<w.heap.size:=by
 rcases h with ⟨rfl,_⟩|⟨g',off,cap,cur,rfl,h1,_⟩
 ·simp [Value.ownBlock] at hg
 ·simp [Value.ownBlock] at hg
  subst hg
  exact lt_of_at h1
theorem QAt.len {w:World} {e:TypeId} {v:Value} {xs:List Value} (h:QAt w e v xs):∃ a c,v=.slice a xs.length c:=by
 rcases h with ⟨rfl,rfl⟩|⟨g,off,cap,cur,rfl,_⟩
 ·exact⟨none,0,rfl⟩
 ·exact⟨_,_,rfl⟩
theorem QAt.shape {w:World} {e:TypeId} {v:Value} {xs:List Value} (h:QAt w e v xs) (hn:0<xs.length):∃ g off cap,v=.slice (some ⟨g,off,none⟩) xs.length cap∧xs.length≤cap∧cap≤maxLen∧(∀ (i:Nat) (x:Value),xs[i]?=some x->w.cell? ⟨g,off+i,none⟩=some x)∧(∀ i,w.frozen? ⟨g,i,none⟩=false)∧g<w.heap.size:=by
 rcases h with ⟨_,rfl⟩|⟨g,off,cap,cur,rfl,hg,h1,h2,h3,h4⟩
 ·simp at hn
 ·refine⟨g,off,cap,rfl,h1,h2,fun i x hx=>?_,fun i=>frozen_at hg i,lt_of_at hg⟩
  have hi:i<xs.length:=(List.getElem?_eq_some_iff.1 hx).1
  rw [cell_at hg]
  rw [<-h4] at hx
  rw [List.getElem?_take,if_pos hi,List.getElem?_drop] at hx
  simpa using hx
theorem QAt.tail {w:World} {e:TypeId} {g off cap:Nat} {x:Value} {xs:List Value} (h:QAt w e (.slice (some ⟨g,off,none⟩) (xs.length+1) cap) (x :: xs)):QAt w e (.slice (some ⟨g,off+1,none⟩) xs.length (cap - 1)) xs:=by
 rcases h with ⟨hv,_⟩|⟨g',off',cap',cur,hv,hg,h1,h2,h3,h4⟩
 ·simp at hv
 ·simp only [Value.slice.injEq,Option.some.injEq,Addr.mk.injEq,and_true,List.length_cons] at hv
  obtain⟨⟨rfl,rfl⟩,_,rfl⟩:=hv
  simp only [List.length_cons] at h1
  refine .inr ⟨g,off+1,cap - 1,cur,rfl,hg,by omega,by omega,by omega,?_⟩
  have h5:=congrArg (List.drop 1) h4
  rw [List.drop_take,List.drop_drop] at h5
  simpa using h5
theorem QAt.cut {w:World} {e:TypeId} {g off cap n:Nat} {xs:List Value} (h:QAt w e (.slice (some ⟨g,off,none⟩) xs.length cap) xs) (hn:n≤xs.length):QAt w e (.slice (some ⟨g,off,none⟩) n cap) (xs.take n):=by
 have hl:(xs.take n).length=n:=by rw [List.length_take];omega
 rcases h with ⟨hv,_⟩|⟨g',off',cap',cur,hv,hg,h1,h2,h3,h4⟩
 ·simp at hv
 ·simp only [Value.slice.injEq,Option.some.injEq,Addr.mk.injEq,and_true,true_and] at hv
  obtain⟨⟨rfl,rfl⟩,rfl⟩:=hv
  refine .inr ⟨g,off,cap,cur,by rw [hl],hg,by omega,h2,h3,?_⟩
  rw [hl]
  conv=>rhs;rw [<-h4]
  rw [List.take_take,Nat.min_eq_left hn]
theorem QAt.set {w:World} {e:TypeId} {g off cap:Nat} {xs:List Value} (h:QAt w e (.slice (some ⟨g,off,none⟩) xs.length cap) xs) (i:Nat) (x:Value):QAt (w.setCell ⟨g,off+i,none⟩ x) e (.slice (some ⟨g,off,none⟩) xs.length cap) (xs.set i x):=by
 rcases h with ⟨hv,_⟩|⟨g',off',cap',cur,hv,hg,h1,h2,h3,h4⟩
 ·simp at hv
 ·simp only [Value.slice.injEq,Option.some.injEq,Addr.mk.injEq,and_true,true_and] at hv
  obtain⟨⟨rfl,rfl⟩,rfl⟩:=hv
  refine .inr ⟨g,off,cap,cur.setIfInBounds (off+i) x,by rw [List.length_set],at_setCell hg _ _,by rw [List.length_set];exact h1,h2,by simpa using h3,?_⟩
  rw [List.length_set,Array.toList_setIfInBounds]
  conv=>rhs;rw [<-h4]
  rw [List.drop_set,if_neg (by omega),Nat.add_sub_cancel_left,List.take_set]
theorem run_appendQ {P:Program} {t e:TypeId} {z:Value} {bytes:Nat} (ht:P.underlying t=some (.slice e)) (hi:(P.info? e).map (fun i=>(i.zero,i.size,i.bytes))=some (some z,1,bytes)) (hzs:z.cells.size=1) (hby:bytes≤128)
  (w:World) (ty:TypeId) (v:Value) (xs:List Value) (hq:QAt w e v xs) (a:Addr) (c:Nat) (x:Value) (hx:w.cell? a=some x) (hone:x.oneCell'=true) (hn:xs.length+1≤20000000000000) (hf:(xs.length+1) * bytes≤160000000000000) :
  ∃ v' w',(Builtin.append_ #[t,t] ty #[v,.slice (some a) 1 c]).run P w=.ok v' w'∧QAt w' e v' (xs++[x])∧w.grownBy w' v.ownBlock∧(v'.ownBlock=v.ownBlock∨∃ g,v'.ownBlock=some g∧w.heap.size≤g):=by
 obtain⟨i,hi1,hz,hisz,hb⟩:=info_of hi
 have hnews:∀ (j:Nat) (u:Value),[x][j]?=some u->w.cell? (a.add j)=some u:=by
  intro j u hu
  cases j with
  | zero =>
   simp at hu
   subst hu
   simpa [Addr.add] using hx
  | succ j=>simp at hu
 have hs:Src P i.size t (.slice (some a) 1 c) 1 [x] w:=Src.ofSlice w ht a 1 c [x] (by rw [hisz];rfl) hnews (by intro u hu;simp at hu;subst hu;exact hone)
 have fits:∀ n,(n+1) * bytes≤160000000000000->∀ cap,cap<n+1->Builtin.nextslicecap (n+1) cap * i.bytes≤281474976710656:=by
  intro n hn cap hcap
  rw [hb]
  refine growslice_fits_wide hcap ?_
  have h2:4 * ((n+1) / 4) * bytes≤(n+1) * bytes:=Nat.mul_le_mul_right _ (by omega)
  rw [Nat.mul_assoc] at h2
  rw [Nat.add_mul,Nat.add_mul]
  generalize (n+1) / 4 * bytes=y at *
  generalize (n+1) * bytes=z at *
  omega
 have new:∀ (cap:Nat),QAt (w.drew.alloc (.cells ((xs++[x]).toArray++Builtin.zeroCells z.cells (grownCap w (xs.length+1) cap e - (xs.length+1))) e)) e (.slice (some ⟨w.heap.size,0,none⟩) (xs.length+1) (grownCap w (xs.length+1) cap e)) (xs++[x]):=by
  intro cap
  have h1:=grownCap_ge w (xs.length+1) cap e
  have h2:=grownCap_le_maxLen w (xs.length+1) cap e (by unfold maxLen;omega)
  refine .inr ⟨w.heap.size,0,grownCap w (xs.length+1) cap e,_,by simp,at_new w.drew _,by simpa using h1,h2,?_,?_⟩
  ·simp only [Array.size_append,List.size_toArray,List.length_append,List.length_singleton,size_zeroCells,hzs]
   omega
  ·rw [List.drop_zero,Array.toList_append]
   exact List.take_left
 have grown:∀ (O:Obj) (r:Option Nat),w.grownBy (w.drew.alloc O) r:=fun O r=>⟨rfl,rfl,rfl,by show w.heap.size≤(w.drew.alloc O).heap.size;simp,fun k hk _=>Below.heap_alloc w.drew O k hk⟩
 rcases hq with ⟨rfl,rfl⟩|⟨g,off,cap,cur,rfl,hg,h1,h2,h3,h4⟩
 ·have:=run_append_grow_src (P:=P) w t t ty e i z ht hi1 hz none 0 0 [] (run_firstCells_none w.drew i.size 0 0 0) (.slice (some a) 1 c) 1 [x] hs (by omega) (by omega) (fits 0 hf 0 (by omega))
  exact⟨_,_,this,new 0,grown _ _,.inr ⟨_,rfl,Nat.le_refl _⟩⟩
 ·by_cases hroom:xs.length+1≤cap
  ·have:=run_append_room_src (P:=P) w t t ty e i ht hi1 g off xs.length cap (.slice (some a) 1 c) 1 [x] hs hroom (by
    intro j hj
    simp at hj
    subst hj
    rw [cell_at hg,hisz]
    have:off+xs.length * 1+0<cur.size:=by omega
    rw [Array.getElem?_eq_getElem this];rfl) (fun j _=>frozen_at hg _)
   rw [hisz,Nat.mul_one] at this
   have hlt:=lt_of_at hg
   refine⟨_,_,this,.inr ⟨g,off,cap,cur.setIfInBounds (off+xs.length) x,by simp,at_setCell hg _ _,by simpa using hroom,h2,by simpa using h3,?_⟩,⟨rfl,rfl,rfl,by show w.heap.size≤(w.setCell _ _).heap.size;simp,fun k hk hne=>Below.heap_setCell _ _ _ _ (fun e=>hne (by have:k=g:=e;rw [this];rfl))⟩,.inl rfl⟩
   rw [List.length_append,List.length_singleton,Array.toList_setIfInBounds,List.drop_set,if_neg (show ¬ off+xs.length<off by omega),Nat.add_sub_cancel_left,List.take_add_one,List.take_set,h4]
   congr 1
   ·rw [List.set_eq_of_length_le (Nat.le_refl _)]
   ·have hl:xs.length<(cur.toList.drop off).length:=by have e:cur.toList.length=cur.size:=Array.length_toList;rw [List.length_drop,e];omega
    rw [List.getElem?_set_self hl]
    rfl
  ·have hold:(Builtin.firstCells i.size xs.length (.slice (some ⟨g,off,none⟩) xs.length cap)).run P w.drew=.ok xs.toArray w.drew:=by
    refine run_firstCells_some w.drew i.size xs.length ⟨g,off,none⟩ xs.length cap xs (by rw [hisz];omega) ?_
    intro j u hu
    have hj:j<xs.length:=(List.getElem?_eq_some_iff.1 hu).1
    have e:(⟨g,off,none⟩:Addr).add j=⟨g,off+j,none⟩:=by cases j <;> simp [Addr.add]
    rw [e]
    show w.cell? _=_
    rw [cell_at hg]
    rw [<-h4,List.getElem?_take,if_pos hj,List.getElem?_drop] at hu
    simpa using hu
   have:=run_append_grow_src (P:=P) w t t ty e i z ht hi1 hz (some ⟨g,off,none⟩) xs.length cap xs hold (.slice (some a) 1 c) 1 [x] hs (by omega) (by omega) (fits _ hf cap (by omega))
   exact⟨_,_,this,new cap,grown _ _,.inr ⟨_,rfl,Nat.le_refl _⟩⟩
theorem wpList_appendQ {P:Program} {t e:TypeId} {z:Value} {bytes:Nat} (ht:P.underlying t=some (.slice e)) (hi:(P.info? e).map (fun i=>(i.zero,i.size,i.bytes))=some (some z,1,bytes)) (hzs:z.cells.size=1) (hby:bytes≤128)
  {w:World} {ops:Array Oper} {rest:List Oper} {o:Oper} {a:Act} {Q:Exit->Act->World->Prop} (hgd:o.guard=none) (s x:Operand)
  (ho:o.op=.call { callee:=.builtin .append,args:=#[s,x],argTypes:=#[t,t] })
  (v:Value) (xs:List Value) (hs:a.eval s=v) (hq:QAt w e v xs) (ad:Addr) (c:Nat) (u:Value) (hx:a.eval x=.slice (some ad) 1 c) (hu:w.cell? ad=some u) (hone:u.oneCell'=true) (hn:xs.length+1≤1000000000000)
  (h:∀ v' w',QAt w' e v' (xs++[u])->w.grownBy w' v.ownBlock->(v'.ownBlock=v.ownBlock∨∃ g,v'.ownBlock=some g∧w.heap.size≤g)->wpList P ops Q rest (a.put o.dst v') w'):wpList P ops Q (o :: rest) a w:=by
 refine wpList_plain hgd fun K hK=>?_
 obtain⟨v',w',hr,h2,h3,h4⟩:=run_appendQ ht hi hzs hby w o.type v xs hq ad c u hu hone (by omega) (Nat.le_trans (Nat.mul_le_mul hn hby) (by decide))
 unfold Oper.wp execOp
 simp only [ho,resolve,invoke,builtin,Sem.run_bind,Sem.run_pure,Result.andThen_ok,List.map_toArray,List.map_cons,List.map_nil,hs,hx,hr]
 exact hK _ _ (h v' w' h2 h3 h4)
theorem wpList_appendQB {P:Program} {t e:TypeId} {z:Value} {bytes:Nat} (ht:P.underlying t=some (.slice e)) (hi:(P.info? e).map (fun i=>(i.zero,i.size,i.bytes))=some (some z,1,bytes)) (hzs:z.cells.size=1) (hby:bytes≤8)
  {w:World} {ops:Array Oper} {rest:List Oper} {o:Oper} {a:Act} {Q:Exit->Act->World->Prop} (hgd:o.guard=none) (s x:Operand)
  (ho:o.op=.call { callee:=.builtin .append,args:=#[s,x],argTypes:=#[t,t] })
  (v:Value) (xs:List Value) (hs:a.eval s=v) (hq:QAt w e v xs) (ad:Addr) (c:Nat) (u:Value) (hx:a.eval x=.slice (some ad) 1 c) (hu:w.cell? ad=some u) (hone:u.oneCell'=true) (hn:xs.length+1≤20000000000000)
  (h:∀ v' w',QAt w' e v' (xs++[u])->w.grownBy w' v.ownBlock->(v'.ownBlock=v.ownBlock∨∃ g,v'.ownBlock=some g∧w.heap.size≤g)->wpList P ops Q rest (a.put o.dst v') w'):wpList P ops Q (o :: rest) a w:=by
 refine wpList_plain hgd fun K hK=>?_
 obtain⟨v',w',hr,h2,h3,h4⟩:=run_appendQ ht hi hzs (by omega) w o.type v xs hq ad c u hu hone hn (Nat.le_trans (Nat.mul_le_mul hn hby) (by decide))
 unfold Oper.wp execOp
 simp only [ho,resolve,invoke,builtin,Sem.run_bind,Sem.run_pure,Result.andThen_ok,List.map_toArray,List.map_cons,List.map_nil,hs,hx,hr]
 exact hK _ _ (h v' w' h2 h3 h4)
theorem step_appendQ {P:Program} {t e:TypeId} {z:Value} {bytes:Nat} (ht:P.underlying t=some (.slice e)) (hi:(P.info? e).map (fun i=>(i.zero,i.size,i.bytes))=some (some z,1,bytes)) (hzs:z.cells.size=1) (hby:bytes≤128)
  {ops:Array Oper} {o:Oper} {a:Act} {w:World} {K:Act->World->Prop} {Q:Exit->Act->World->Prop} {E:Prop}
  (hg:o.guard=none) (s x:Operand) (hop:o.op=Op.call { callee:=Callee.builtin Builtin.append,args:=#[s,x],argTypes:=#[t,t] })
  (v:Value) (xs:List Value) (hs:a.eval s=v) (hq:QAt w e v xs) (ad:Addr) (c:Nat) (u:Value) (hx:a.eval x=.slice (some ad) 1 c) (hu:w.cell? ad=some u) (hone:u.oneCell'=true) (hn:xs.length+1≤1000000000000)
  (hK:∀ v' w',QAt w' e v' (xs++[u])->w.grownBy w' v.ownBlock->(v'.ownBlock=v.ownBlock∨∃ g,v'.ownBlock=some g∧w.heap.size≤g)->K (a.put o.dst v') w') :
  if Region.wanted o (yielded ops a.tmps)=true then Oper.wp P o a w K Q else E:=by
 have hw:Region.wanted o (yielded ops a.tmps)=true:=by simp [Region.wanted,hg]
 rw [if_pos hw]
 obtain⟨v',w',hr,h2,h3,h4⟩:=run_appendQ ht hi hzs hby w o.type v xs hq ad c u hu hone (by omega) (Nat.le_trans (Nat.mul_le_mul hn hby) (by decide))
 unfold Oper.wp
 simp [execOp,hop,resolve,invoke,builtin,hs,hx,hr,Result.andThen]
 exact hK v' w' h2 h3 h4
end Go.Proofs.YtnhidaamfnjdjaaGreatDoor
namespace Go.Proofs.YtnhidaamfnjdjaaGreatDoor
open Go.RowKit Go.Maps
theorem exprM_len:∀ (e:PE) (s:CM),(exprM e s).code.length=s.code.length+sizeE e∧(exprM e s).br=s.br∧(exprM e s).room=s.room
 | .nil,s=>⟨rfl,rfl,rfl⟩
 | .num _,s=>⟨by simp [exprM,CM.add,sizeE],rfl,rfl⟩
 | .var _ _,s=>⟨by simp [exprM,CM.add,sizeE],rfl,rfl⟩
 | .pair op l r,s=>by
  have h1:=exprM_len l s
  have h2:=exprM_len r (exprM l s)
  refine⟨?_,h2.2.1.trans h1.2.1,h2.2.2.trans h1.2.2⟩
  show ((exprM r (exprM l s)).add (opK op) 0).code.length=_
  simp only [CM.add,List.length_append,List.length_singleton,sizeE]
  omega
theorem op_any (op:UInt8) (w:World):Calls Tryz.prog 215 #[.int .u8 op.toNat] w fun e w'=>e=.returned (.int .i64 (opK op))∧w'=w:=by
 have key:∀ (c:UInt8) (z:Int),(c.toNat:Int)=z->(op=c∧((op.toNat:Int) == z)=true)∨(op≠c∧((op.toNat:Int) == z)=false):=by
  intro c z hz
  by_cases h:op=c
  ·exact .inl ⟨h,by rw [beq_iff_eq,h];exact hz⟩
  ·refine .inr ⟨h,?_⟩
   rw [beq_eq_false_iff_ne]
   intro h2
   exact h (UInt8.toNat_inj.1 (by omega))
 unfold opK
 rcases key 43 43 rfl with ⟨h0,e0⟩|⟨h0,e0⟩
 ·rw [if_pos h0]
  clear key h0
  go_enter Tryz.func215,Tryz.ntmps215
  go_wp2_with fail
  go_ret
  exact⟨rfl,rfl⟩
 rcases key 45 45 rfl with ⟨h1,e1⟩|⟨h1,e1⟩
 ·rw [if_neg h0,if_pos h1]
  clear key h0 h1
  go_enter Tryz.func215,Tryz.ntmps215
  go_wp2_with fail
  go_ret
  exact⟨rfl,rfl⟩
 rcases key 42 42 rfl with ⟨h2,e2⟩|⟨h2,e2⟩
 ·rw [if_neg h0,if_neg h1,if_pos h2]
  clear key h0 h1 h2
  go_enter Tryz.func215,Tryz.ntmps215
  go_wp2_with fail
  go_ret
  exact⟨rfl,rfl⟩
 rcases key 47 47 rfl with ⟨h3,e3⟩|⟨h3,e3⟩
 ·rw [if_neg h0,if_neg h1,if_neg h2,if_pos h3]
  clear key h0 h1 h2 h3
  go_enter Tryz.func215,Tryz.ntmps215
  go_wp2_with fail
  go_ret
  exact⟨rfl,rfl⟩
 rcases key 37 37 rfl with ⟨h4,e4⟩|⟨h4,e4⟩
 ·rw [if_neg h0,if_neg h1,if_neg h2,if_neg h3,if_pos h4]
  clear key h0 h1 h2 h3 h4
  go_enter Tryz.func215,Tryz.ntmps215
  go_wp2_with fail
  go_ret
  exact⟨rfl,rfl⟩
 rcases key 61 61 rfl with ⟨h5,e5⟩|⟨h5,e5⟩
 ·rw [if_neg h0,if_neg h1,if_neg h2,if_neg h3,if_neg h4,if_pos h5]
  clear key h0 h1 h2 h3 h4 h5
  go_enter Tryz.func215,Tryz.ntmps215
  go_wp2_with fail
  go_ret
  exact⟨rfl,rfl⟩
 rcases key 60 60 rfl with ⟨h6,e6⟩|⟨h6,e6⟩
 ·rw [if_neg h0,if_neg h1,if_neg h2,if_neg h3,if_neg h4,if_neg h5,if_pos h6]
  clear key h0 h1 h2 h3 h4 h5 h6
  go_enter Tryz.func215,Tryz.ntmps215
  go_wp2_with fail
  go_ret
  exact⟨rfl,rfl⟩
 rw [if_neg h0,if_neg h1,if_neg h2,if_neg h3,if_neg h4,if_neg h5,if_neg h6]
 clear key h0 h1 h2 h3 h4 h5 h6
 go_enter Tryz.func215,Tryz.ntmps215
 go_wp2_with fail
 go_ret
 exact⟨rfl,rfl⟩
set_option maxRecDepth 20000 in
set_option maxHeartbeats 2000000 in
theorem cexpr_any {lo b:Nat}:∀ (e:PE) (elo ehi:Nat) (v:Option Addr) (w:World) (s:CM) (vc vb:Value),RepE w e elo ehi v->ehi≤lo->fullE e=true->MkAt w lo b s vc vb->s.code.length+sizeE e≤900000 ->
  Calls Tryz.prog 190 #[.pointer (some ⟨b,0,none⟩),.pointer v] w fun e' w'=>e'=.returned (.tuple #[])∧MkPost lo b vc vb w (exprM e s) w'
 | .nil,_,_,_,_,_,_,_,_,_,hf,_,_=>by cases hf
 | .num n,elo,ehi,v,w,s,vc,vb,he,hlo,_,hm,hn=>by
  obtain⟨c,h1,h2,rfl,hc⟩:=he
  have d0:=cell_at hc 0;have d1:=cell_at hc 1
  have A:=hide (cadd_any 1 n w hm (by simp only [sizeE] at hn;omega))
  clear hm hc
  go_enter Tryz.func190,Tryz.ntmps190
  go_wp2_with (go_at_call 82;refine A.out.mono ?_;rintro e w2 ⟨rfl,p2⟩;have P2:=hide p2;clear p2)
  go_end0
  exact⟨rfl,P2.out⟩
 | .var nm d,elo,ehi,v,w,s,vc,vb,he,hlo,_,hm,hn=>by
  obtain⟨c,h1,h2,rfl,hc⟩:=he
  have d0:=cell_at hc 0;have d3:=cell_at hc 3
  have A:=hide (cadd_any 2 d w hm (by simp only [sizeE] at hn;omega))
  clear hm hc
  go_enter Tryz.func190,Tryz.ntmps190
  go_wp2_with (go_at_call 82;refine A.out.mono ?_;rintro e w2 ⟨rfl,p2⟩;have P2:=hide p2;clear p2)
  go_end0
  exact⟨rfl,P2.out⟩
 | .pair op l r,elo,ehi,v,w,s,vc,vb,he,hlo,hf,hm,hn=>by
  obtain⟨c,m1,m2,vl,vr,h1,h2,h3,h4,rfl,hc,hl,hr⟩:=he
  have hf1:fullE l=true∧fullE r=true:=by simpa [fullE] using hf
  have d0:=cell_at hc 0;have d4:=cell_at hc 4;have d5:=cell_at hc 5;have d6:=cell_at hc 6
  have hsz:sizeE (.pair op l r)=sizeE l+sizeE r+1:=rfl
  have hll:=exprM_len l s
  have hrr:=exprM_len r (exprM l s)
  have L:=hide (cexpr_any l elo m1 vl w s vc vb hl (by omega) hf1.1 hm (by omega))
  have R:Hid (∀ w1,Below lo w w1->∀ vc vb,MkAt w1 lo b (exprM l s) vc vb->Calls Tryz.prog 190 #[.pointer (some ⟨b,0,none⟩),.pointer vr] w1 fun e' w'=>e'=.returned (.tuple #[])∧MkPost lo b vc vb w1 (exprM r (exprM l s)) w'):=hide (fun w1 hb vc vb hm1=>cexpr_any r m1 m2 vr w1 (exprM l s) vc vb (hr.frame (fun k a c=>hb.block k (by omega))) (by omega) hf1.2 hm1 (by omega))
  have Hc:=hide hc;have Hm:=hide hm
  have hcl:c<lo:=by omega
  have hn3:(exprM r (exprM l s)).code.length+1≤1000000:=by omega
  have He:Hid (exprM (.pair op l r) s=(exprM r (exprM l s)).add (opK op) 0):=hide rfl
  clear hm hc hl hr hll hrr hn hsz
  rw [He.out]
  generalize exprM l s=s1 at *
  generalize exprM r s1=s2 at *
  go_enter Tryz.func190,Tryz.ntmps190
  go_wp2_with (first|(go_at_call 215;refine (op_any op _).mono ?_;rintro e wx ⟨rfl,hw⟩;have hw:=hw.symm;subst hw)|(go_at_call 190;refine L.out.mono ?_;rintro e w1 ⟨rfl,p1⟩;obtain⟨vc1,vb1,k1,fr1⟩:=p1;have bb1:=fr1.low Hm.out;have F1:=hide fr1;clear fr1;have q6:w1.cell? ⟨c,6,none⟩=some (.pointer vr):=cell_at (by rw [bb1.block c hcl];exact Hc.out) 6;have K1:=hide k1;have B1:=hide bb1;clear k1 bb1 L)|(go_at_call 190;refine (R.out _ B1.out _ _ K1.out).mono ?_;rintro e w2 ⟨rfl,p2⟩;obtain⟨vc2,vb2,k2,fr2⟩:=p2;have bb2:=fr2.low K1.out;have F2:=hide fr2;clear fr2;have q4:w2.cell? ⟨c,4,none⟩=some (.int .u8 op.toNat):=cell_at (by rw [bb2.block c hcl,B1.out.block c hcl];exact Hc.out) 4;have K2:=hide k2;have B2:=hide bb2;clear k2 bb2 R)|(go_at_call 82;refine (cadd_any _ _ _ K2.out hn3).mono ?_;rintro e w3 ⟨rfl,p3⟩;obtain⟨vc3,vb3,k3,fr3⟩:=p3;have K3:=hide k3;have F3:=hide fr3;clear k3 fr3))
  go_end0
  exact⟨rfl,_,_,K3.out,(F1.out.trans F2.out).trans F3.out⟩
end Go.Proofs.YtnhidaamfnjdjaaGreatDoor
namespace Go.Proofs.YtnhidaamfnjdjaaGreatDoor
open Go.RowKit Go.Maps
theorem intInfo':(Tryz.prog.info? 3).map (fun i=>(i.zero,i.size,i.bytes))=some (some (.int .i64 0),1,8):=by kernel_rfl
def natsV (l:List Nat):List Value:=l.map fun (i:Nat)=>.int .i64 i
theorem natsV_at (l:List Nat) (i:Nat) (h:i<l.length):(natsV l)[i]?=some (.int .i64 l[i]):=by simp [natsV,List.getElem?_eq_getElem h]
theorem codeV_set (l:List (Int×Int)):∀ (i:Nat) (n:Int),i<l.length->(codeV l).set (i * 2+1) (.int .i64 n)=codeV (l.set i ((l.getD i (0,0)).1,n)):=by
 induction l with
 | nil=>intro i n h;simp at h
 | cons p l ih =>
  intro i n h
  have e:codeV (p :: l)=insV p++codeV l:=rfl
  cases i with
  | zero=>rfl
  | succ i =>
   have e2:codeV ((p :: l).set (i+1) (((p :: l).getD (i+1) (0,0)).1,n))=insV p++codeV (l.set i ((l.getD i (0,0)).1,n)):=rfl
   have hl:(insV p).length=2:=rfl
   rw [e,e2,List.set_append_right _ _ (by rw [hl];omega),hl,<-ih i n (by simpa using h)]
   congr 2
   omega
theorem codeV_at (l:List (Int×Int)):∀ (i:Nat),i<l.length->(codeV l)[i * 2]?=some (.int .i64 (l.getD i (0,0)).1)∧(codeV l)[i * 2+1]?=some (.int .i64 (l.getD i (0,0)).2):=by
 induction l with
 | nil=>intro i h;simp at h
 | cons p l ih =>
  intro i h
  have e:codeV (p :: l)=insV p++codeV l:=rfl
  cases i with
  | zero=>exact⟨rfl,rfl⟩
  | succ i =>
   have hl:(insV p).length=2:=rfl
   have g:=ih i (by simpa using h)
   have e1:(i+1) * 2 - 2=i * 2:=by omega
   have e2:(i+1) * 2+1 - 2=i * 2+1:=by omega
   rw [e,List.getElem?_append_right (by rw [hl];omega),List.getElem?_append_right (by rw [hl];omega),hl,e1,e2]
   exact g
theorem row_set {w:World} {e:TypeId} {size g n cap:Nat} {xs:List Value} (h:w.ownsRow 0 e size (.slice (some ⟨g,0,none⟩) n cap) n xs) (j:Nat) (v:Value):(w.setCell ⟨g,j,none⟩ v).ownsRow 0 e size (.slice (some ⟨g,0,none⟩) n cap) n (xs.set j v):=by
 refine⟨by rw [List.length_set];exact h.1,?_⟩
 rcases h.2 with ⟨x,_⟩|⟨g',cap',cur,x,hb,hg,h1,h2,h3,h4⟩
 ·simp at x
 ·simp only [Value.slice.injEq,Option.some.injEq,Addr.mk.injEq,and_true,true_and] at x
  obtain⟨rfl,rfl⟩:=x
  refine .inr ⟨g,cap,cur.setIfInBounds j v,rfl,hb,at_setCell hg _ _,h1,h2,by simpa using h3,?_⟩
  rw [Array.toList_setIfInBounds,<-h4,List.take_set]
theorem row_pos {w:World} {e:TypeId} {size:Nat} {v:Value} {n:Nat} {xs:List Value} (h:w.ownsRow 0 e size v n xs) (hn:0<n):∃ g cap cur,v=.slice (some ⟨g,0,none⟩) n cap∧w.heap[g]?=some (.cells cur e)∧n≤cap∧cap≤maxLen∧cur.size=cap * size∧cur.toList.take (n * size)=xs:=by
 rcases h.2 with ⟨_,h0⟩|⟨g,cap,cur,hv,_,hg,h1,h2,h3,h4⟩
 ·omega
 ·exact⟨g,cap,cur,hv,hg,h1,h2,h3,h4⟩
theorem caim_one {w:World} {lo b:Nat} {s:CM} {vc vb:Value} {g cap:Nat} (h:MkAt w lo b s vc vb) (hv:vc=.slice (some ⟨g,0,none⟩) s.code.length cap) (i:Nat) (hi:i<s.code.length) :
  MkAt (w.setCell ⟨g,i * 2+1,none⟩ (.int .i64 s.code.length)) lo b (s.aim i) vc vb∧MkFr b vc vb vc vb w (w.setCell ⟨g,i * 2+1,none⟩ (.int .i64 s.code.length)):=by
 subst hv
 have hgb:g≠b:=fun e=>h.cb (by rw [e];rfl)
 have hl:(s.aim i).code.length=s.code.length:=by simp [CM.aim]
 refine⟨⟨at_setCell_other h.blk (fun e=>hgb e.symm) _ _,?_,ownsRow_frame h.br (fun k hk=>Below.heap_setCell _ _ _ _ (fun e=>?_)),h.cb,h.bb,h.cbr,h.lb,h.lc,h.lbr⟩,⟨rfl,rfl,rfl,by simp,fun k _ _ hk _=>Below.heap_setCell _ _ _ _ (fun e=>hk ?_),.inl rfl,.inl rfl⟩⟩
 ·rw [hl]
  have e1:codeV (s.aim i).code=(codeV s.code).set (i * 2+1) (.int .i64 s.code.length):=(codeV_set s.code i _ hi).symm
  rw [e1]
  exact row_set h.code _ _
 ·have e:k=g:=e
  subst e
  exact h.cbr k rfl hk
 ·have e:k=g:=e
  subst e
  rfl
theorem aims_len (s:CM):∀ l:List Nat,(s.aims l).code.length=s.code.length:=by
 intro l
 induction l generalizing s with
 | nil=>rfl
 | cons a l ih =>
  show ((s.aim a).aims l).code.length=_
  rw [ih]
  simp [CM.aim]
set_option maxRecDepth 20000 in
set_option maxHeartbeats 2000000 in
theorem caim_any {lo b:Nat} {s:CM} {vc vb:Value} (w:World) (h:MkAt w lo b s vc vb) (l:List Nat) (ia:Option Addr) (ic:Nat) (hrow:w.ownsRow 0 3 1 (.slice ia l.length ic) l.length (natsV l)) (hheld:∀ g,(Value.slice ia l.length ic).ownBlock=some g->Held w b vc vb g) (hin:∀ i∈l,i<s.code.length) (hfew:s.code.length≤1000000) (hlf:l.length≤1000000) :
  Calls Tryz.prog 191 #[.pointer (some ⟨b,0,none⟩),.slice ia l.length ic] w fun e w'=>e=.returned (.tuple #[])∧MkPost lo b vc vb w (s.aims l) w':=by
 have H:=hide h;have Hr:=hide hrow;have Hh:=hide hheld;have Hi:=hide hin
 clear h hrow hheld hin
 go_enter Tryz.func191,Tryz.ntmps191
 go_wp2_with fail
 go_loopw [5,8] (fun _ x wr=>∃ j:Nat,j≤l.length∧x=.int .i64 j∧MkPost lo b vc vb w (s.aims (l.take j)) wr) (fun _ x _=>l.length - (intOf x).toNat)
 case atStart=>exact⟨0,Nat.zero_le _,rfl,_,_,H.out,MkFr.refl _ _ _ _⟩
 case round =>
  obtain⟨j,hj,rfl,vc1,vb1,k1,f1⟩:=hrel
  by_cases hlt:j<l.length
  ·have hrow1:wr.ownsRow 0 3 1 (.slice ia l.length ic) l.length (natsV l):=ownsRow_frame Hr.out (fun g hg=>((Hh.out g hg).next f1).2)
   obtain⟨g,cap,cur,e1,hg,hn,hc,hsz,hxs⟩:=row_pos hrow1 (by omega)
   have hcell:wr.cell? ⟨g,j,none⟩=some (.int .i64 (l[j]:Nat)):=ownsRow_cell hg (by rw [Nat.mul_one] at hxs;exact hxs) (natsV_at l j hlt)
   have hlen:(s.aims (l.take j)).code.length=s.code.length:=aims_len _ _
   have hij:=Hi.out l[j] (List.getElem_mem hlt)
   have hst:s.aims (l.take (j+1))=(s.aims (l.take j)).aim l[j]:=by
    unfold CM.aims
    rw [List.take_add_one,List.getElem?_eq_getElem hlt,List.foldl_append]
    rfl
   obtain⟨gc,cc,curc,e2,hgc,hnc,hcc,hszc,hxc⟩:=row_pos k1.code (by omega)
   have hstep:=caim_one k1.drew e2 l[j] (by omega)
   have c0:=k1.c0
   rw [e2] at c0
   have y4:wr.cell? ⟨gc,l[j] * 2+1,none⟩=some (.int .i64 ((s.aims (l.take j)).code.getD l[j] (0,0)).2):=ownsRow_cell hgc hxc (codeV_at _ _ (by omega)).2
   have z4:∀ i,wr.frozen? ⟨gc,i,none⟩=false:=fun i=>frozen_at hgc i
   have Hst:=hide hst;have Hstep:=hide hstep;have K1:=hide k1;have F1:=hide f1
   clear hrow1 hg hxs hsz hst hstep k1 f1 hgc hxc hszc e2
   simp only [Value.slice.injEq,true_and] at e1
   obtain⟨rfl,rfl⟩:=e1
   rw [hlen] at Hstep c0 hnc
   generalize l[j]=i at *
   generalize ((s.aims (l.take j)).code.getD i (0,0)).2=old at *
   go_wp2_with fail
   go_region_with (go_at_call 155;refine Calls.mono (cnext_cell (va:=some ⟨gc,0,none⟩) (n:=s.code.length) (cc:=cc) _ (by exact c0)) ?_;rintro e wx ⟨rfl,hw⟩;have hw:=hw.symm;subst hw)
   all_goals
    go_wp2_with fail
    go_roundw
    case rel=>exact⟨j+1,by omega,by go_num,by rw [Hst.out];exact⟨_,_,Hstep.out.1,F1.out.drew.trans Hstep.out.2⟩⟩
    case measure=>simp [intOf];omega
  ·have e:l.take j=l:=List.take_of_length_le (by omega)
   rw [e] at k1
   have K1:=hide k1;have F1:=hide f1
   clear k1 f1
   go_wp2_with fail
   go_end0
   exact⟨rfl,_,_,K1.out,F1.out⟩
end Go.Proofs.YtnhidaamfnjdjaaGreatDoor
namespace Go.Proofs.YtnhidaamfnjdjaaGreatDoor
open Go.RowKit Go.Maps
theorem waysV_at (l:List (Int×Int×Int)):∀ (i:Nat),i<l.length->(waysV l)[i * 3]?=some (.int .i64 (l.getD i (0,0,0)).1)∧(waysV l)[i * 3+1]?=some (.int .i64 (l.getD i (0,0,0)).2.1)∧(waysV l)[i * 3+2]?=some (.int .i64 (l.getD i (0,0,0)).2.2):=by
 induction l with
 | nil=>intro i h;simp at h
 | cons p l ih =>
  intro i h
  have e:waysV (p :: l)=wayV p++waysV l:=rfl
  cases i with
  | zero=>exact⟨rfl,rfl,rfl⟩
  | succ i =>
   have hl:(wayV p).length=3:=rfl
   have g:=ih i (by simpa using h)
   have e1:(i+1) * 3 - 3=i * 3:=by omega
   have e2:(i+1) * 3+1 - 3=i * 3+1:=by omega
   have e3:(i+1) * 3+2 - 3=i * 3+2:=by omega
   rw [e,List.getElem?_append_right (by rw [hl];omega),List.getElem?_append_right (by rw [hl];omega),List.getElem?_append_right (by rw [hl];omega),hl,e1,e2,e3]
   exact g
theorem waysV_set (l:List (Int×Int×Int)):∀ (i:Nat) (n:Int),i<l.length->(waysV l).set (i * 3+2) (.int .i64 n)=waysV (l.set i ((l.getD i (0,0,0)).1,(l.getD i (0,0,0)).2.1,n)):=by
 induction l with
 | nil=>intro i n h;simp at h
 | cons p l ih =>
  intro i n h
  have e:waysV (p :: l)=wayV p++waysV l:=rfl
  cases i with
  | zero=>rfl
  | succ i =>
   have e2:waysV ((p :: l).set (i+1) (((p :: l).getD (i+1) (0,0,0)).1,((p :: l).getD (i+1) (0,0,0)).2.1,n))=wayV p++waysV (l.set i ((l.getD i (0,0,0)).1,(l.getD i (0,0,0)).2.1,n)):=rfl
   have hl:(wayV p).length=3:=rfl
   rw [e,e2,List.set_append_right _ _ (by rw [hl];omega),hl,<-ih i n (by simpa using h)]
   congr 2
   omega
theorem cland_one {w:World} {lo b:Nat} {s:CM} {vc vb:Value} {g cap:Nat} (h:MkAt w lo b s vc vb) (hv:vb=.slice (some ⟨g,0,none⟩) s.br.length cap) (i:Nat) (hi:i<s.br.length) :
  MkAt (w.setCell ⟨g,i * 3+2,none⟩ (.int .i64 s.code.length)) lo b (s.land i) vc vb∧MkFr b vc vb vc vb w (w.setCell ⟨g,i * 3+2,none⟩ (.int .i64 s.code.length)):=by
 subst hv
 have hgb:g≠b:=fun e=>h.bb (by rw [e];rfl)
 have hl:(s.land i).br.length=s.br.length:=by simp [CM.land]
 refine⟨⟨at_setCell_other h.blk (fun e=>hgb e.symm) _ _,ownsRow_frame h.code (fun k hk=>Below.heap_setCell _ _ _ _ (fun e=>?_)),?_,h.cb,h.bb,h.cbr,h.lb,h.lc,h.lbr⟩,⟨rfl,rfl,rfl,by simp,fun k _ _ _ hk=>Below.heap_setCell _ _ _ _ (fun e=>hk ?_),.inl rfl,.inl rfl⟩⟩
 ·have e:k=g:=e
  subst e
  exact h.cbr k hk rfl
 ·rw [hl]
  have e1:waysV (s.land i).br=(waysV s.br).set (i * 3+2) (.int .i64 s.code.length):=(waysV_set s.br i _ hi).symm
  rw [e1]
  exact row_set h.br _ _
 ·have e:k=g:=e
  subst e
  rfl
set_option maxRecDepth 20000 in
set_option maxHeartbeats 2000000 in
theorem cland_any {lo b:Nat} {s:CM} {vc vb:Value} (w:World) (h:MkAt w lo b s vc vb) (i:Nat) (hi:i<s.br.length) (hbf:s.br.length≤1000000) :
  Calls Tryz.prog 193 #[.pointer (some ⟨b,0,none⟩),.int .i64 i] w fun e w'=>e=.returned (.tuple #[])∧MkPost lo b vc vb w (s.land i) w':=by
 obtain⟨gc,cc,curc,e2,hgc,hnc,hcc,hszc,hxc⟩:=row_pos h.br (by omega)
 obtain⟨va,ac,e3⟩:=ownsRow_len h.code
 have c0:=h.c0
 have c1:=h.c1
 have y4:w.cell? ⟨gc,i * 3+2,none⟩=some (.int .i64 (s.br.getD i (0,0,0)).2.2):=ownsRow_cell hgc hxc (waysV_at _ _ hi).2.2
 have z4:∀ i,w.frozen? ⟨gc,i,none⟩=false:=fun i=>frozen_at hgc i
 have hstep:=cland_one h.drew e2 i hi
 rw [e2] at c1
 rw [e3] at c0
 have Hstep:=hide hstep
 clear hstep h hgc hxc hszc e2 e3
 generalize (s.br.getD i (0,0,0)).2.2=old at *
 go_enter Tryz.func193,Tryz.ntmps193
 go_wp2_with fail
 go_region_with (go_at_call 155;refine Calls.mono (cnext_cell (va:=va) (n:=s.code.length) (cc:=ac) _ (by exact c0)) ?_;rintro e wx ⟨rfl,hw⟩;have hw:=hw.symm;subst hw)
 all_goals
  go_wp2_with fail
  go_end0
  exact⟨rfl,_,_,Hstep.out.1,(MkFr.refl _ _ _ _).drew.trans Hstep.out.2⟩
theorem cway_final {w w4:World} {lo b:Nat} {s:CM} {vc vb:Value} {O:Obj} {v':Value} {x:Int×Int×Int} (h:MkAt w lo b s vc vb) (G4:(w.alloc O).drew.grownBy w4 vb.ownBlock)
  (O4:w4.ownsRow 0 207 3 v' (s.br.length+1) (waysV s.br++wayV x)) (B4:v'.ownBlock=vb.ownBlock∨∃ g,v'.ownBlock=some g∧(w.alloc O).drew.heap.size≤g)
  (Hv4:w4.heap[b]?=some (.cells (makCells s vc vb) 159)):MkAt (w4.setCell ⟨b,1,none⟩ v') lo b { s with br:=s.br++[x] } vc v'∧MkFr b vc vb vc v' w (w4.setCell ⟨b,1,none⟩ v'):=by
 have hz:(w.alloc O).drew.heap.size=w.heap.size+1:=by show (w.alloc O).heap.size=_;simp
 have hlb:=lt_of_at h.blk
 have hvb:v'.ownBlock≠some b:=by
  rcases B4 with e|⟨g,e,hg⟩
  ·rw [e];exact h.bb
  ·rw [e];intro x;injection x with x;omega
 have blk:∀ g,g<w.heap.size->vb.ownBlock≠some g->w4.heap[g]?=w.heap[g]?:=by
  intro g hg hne
  rw [G4.block g (by omega) (fun e=>hne e.symm)]
  exact Below.heap_alloc _ _ _ hg
 have nc:v'.ownBlock=vb.ownBlock∨∃ g,v'.ownBlock=some g∧w.heap.size≤g:=by
  rcases B4 with e|⟨g',e,hge⟩
  ·exact .inl e
  ·exact .inr ⟨g',e,by omega⟩
 refine⟨⟨at_setCell Hv4 1 v',?_,?_,h.cb,hvb,?_,h.lb,h.lc,?_⟩,⟨G4.os,G4.tape,G4.output,?_,fun g hg h1 h2 h3=>?_,.inl rfl,nc⟩⟩
 ·refine ownsRow_frame h.code (fun g hg=>?_)
  rw [Below.heap_setCell _ _ _ _ (fun e=>h.cb (by rw [hg];exact congrArg some e))]
  exact blk g (own_lt h.code hg) (fun e=>h.cbr g hg e)
 ·show (w4.setCell ⟨b,1,none⟩ v').ownsRow 0 207 3 v' (s.br++[x]).length (waysV (s.br++[x]))
  rw [waysV_append,List.length_append,List.length_singleton]
  exact ownsRow_frame O4 (fun g hg=>Below.heap_setCell _ _ _ _ (fun e=>hvb (by rw [hg];exact congrArg some e)))
 ·intro g hg hgb
  exact new_ne nc (own_lt h.code hg) (fun e=>h.cbr g hg e) hgb
 ·intro g hg
  rcases nc with e|⟨g',e,hge⟩
  ·exact h.lbr g (by rw [<-e];exact hg)
  ·rw [e] at hg
   injection hg with hg
   have:=h.lb
   omega
 ·have:=G4.size
  have h2:(w4.setCell ⟨b,1,none⟩ v').heap.size=w4.heap.size:=by simp
  omega
 ·rw [Below.heap_setCell _ _ _ _ (fun e=>h1 e)]
  exact blk g hg h3
structure NdAt (w:World) (lo nb:Nat) (n:PNode) (m:NM):Prop where
 cells:w.heap[nb]?=some (.cells (nodeCells n m) 115)
 expr:RepE w n.expr m.elo m.ehi m.ve
 ehi:m.ehi≤lo
 lt:nb<lo
theorem NdAt.low {w w':World} {lo nb:Nat} {n:PNode} {m:NM} (h:NdAt w lo nb n m) (hb:Below lo w w'):NdAt w' lo nb n m :=
 ⟨by rw [hb.block nb h.lt];exact h.cells,h.expr.frame (fun k _ c=>hb.block k (by have:=h.ehi;omega)),h.ehi,h.lt⟩
theorem RepE.some_of {w:World} {e:PE} {lo hi:Nat} {v:Option Addr} (h:RepE w e lo hi v) (hf:fullE e=true):∃ c,v=some ⟨c,0,none⟩∧c<hi:=by
 cases e with
 | nil=>cases hf
 | num n=>obtain⟨c,_,h2,rfl,_⟩:=h;exact⟨c,rfl,h2⟩
 | var n d=>obtain⟨c,_,h2,rfl,_⟩:=h;exact⟨c,rfl,h2⟩
 | pair op l r=>obtain⟨c,_,_,_,_,_,_,_,h2,rfl,_⟩:=h;exact⟨c,rfl,h2⟩
end Go.Proofs.YtnhidaamfnjdjaaGreatDoor
