import Derived.WalkKit
import Derived.Test.YtnhidaamfnjdjaaGreatDoorZPure
namespace Go.Proofs.YtnhidaamfnjdjaaGreatDoor
open Go.RowKit
theorem hide {p:Prop} (h:p):Hid p:=h
theorem cell_at {w:World} {b:Nat} {cs:Array Value} {t:TypeId} {fz:Nat×Nat} (h:w.heap[b]?=some (.cells cs t fz)) (i:Nat):w.cell? ⟨b,i,none⟩=cs[i]?:=by
 simp [World.cell?,h]
theorem frozen_at {w:World} {b:Nat} {cs:Array Value} {t:TypeId} (h:w.heap[b]?=some (.cells cs t)) (i:Nat):w.frozen? ⟨b,i,none⟩=false:=by
 simp [World.frozen?,h]
theorem lt_of_at {w:World} {b:Nat} {o:Obj} (h:w.heap[b]?=some o):b<w.heap.size:=by
 rcases Nat.lt_or_ge b w.heap.size with h'|h'
 ·exact h'
 ·simp [Array.getElem?_eq_none h'] at h
theorem at_setCell {w:World} {b:Nat} {cs:Array Value} {t:TypeId} {fz:Nat×Nat} (h:w.heap[b]?=some (.cells cs t fz)) (i:Nat) (v:Value) :
  (w.setCell ⟨b,i,none⟩ v).heap[b]?=some (.cells (cs.setIfInBounds i v) t fz):=by
 simp [World.setCell,Array.getElem?_modify,h]
theorem at_setCell_other {w:World} {b c:Nat} {o:Option Obj} (h:w.heap[b]?=o) (hne:b≠c) (i:Nat) (v:Value) :
  (w.setCell ⟨c,i,none⟩ v).heap[b]?=o:=by
 rw [Below.heap_setCell _ _ _ _ (by simpa using hne)];exact h
theorem at_alloc {w:World} {b:Nat} {o:Obj} (h:w.heap[b]?=some o) (x:Obj):(w.alloc x).heap[b]?=some o:=by
 rw [Below.heap_alloc _ _ _ (lt_of_at h)];exact h
theorem at_drew {w:World} {b:Nat} {o:Option Obj} (h:w.heap[b]?=o):w.drew.heap[b]?=o:=h
theorem at_new (w:World) (x:Obj):(w.alloc x).heap[w.heap.size]?=some x:=by
 show (w.heap.push x)[w.heap.size]?=_
 simp
theorem Below.at {B:Nat} {w w':World} (hb:Below B w w') {b:Nat} {o:Option Obj} (h:w.heap[b]?=o) (hlt:b<B):w'.heap[b]?=o:=by rw [hb.block b hlt];exact h
structure Kept (b:Nat) (w w':World):Prop where
 os:w'.os=w.os
 tape:w'.tape=w.tape
 output:w'.output=w.output
 size:w.heap.size≤w'.heap.size
 block:∀ k,k<w.heap.size->k≠b->w'.heap[k]?=w.heap[k]?
theorem Kept.refl (b:Nat) (w:World):Kept b w w:=⟨rfl,rfl,rfl,Nat.le_refl _,fun _ _ _=>rfl⟩
theorem Kept.trans {b:Nat} {x y z:World} (h:Kept b x y) (k:Kept b y z):Kept b x z :=
 ⟨k.os.trans h.os,k.tape.trans h.tape,k.output.trans h.output,Nat.le_trans h.size k.size,fun i hi hne=>(k.block i (Nat.lt_of_lt_of_le hi h.size) hne).trans (h.block i hi hne)⟩
theorem Kept.below {b:Nat} {w w':World} (h:Below w.heap.size w w'):Kept b w w':=⟨h.os,h.tape,h.output,h.size,fun k hk _=>h.block k hk⟩
theorem Kept.drew {b:Nat} {a w:World} (h:Kept b a w):Kept b a w.drew:=⟨h.os,h.tape,h.output,h.size,h.block⟩
theorem Kept.alloc {b:Nat} {a w:World} (h:Kept b a w) (o:Obj):Kept b a (w.alloc o) :=
 h.trans ⟨rfl,rfl,rfl,by simp,fun k hk _=>Below.heap_alloc _ _ _ hk⟩
theorem Kept.setCell {b:Nat} {a w:World} (h:Kept b a w) (i:Nat) (v:Value):Kept b a (w.setCell ⟨b,i,none⟩ v) :=
 h.trans ⟨rfl,rfl,rfl,by simp [World.setCell],fun k _ hne=>Below.heap_setCell _ _ _ _ (by simpa using hne)⟩
theorem Kept.setNew {b:Nat} {a w:World} (h:Kept b a w) {c:Nat} (hc:a.heap.size≤c) (i:Nat) (v:Value):Kept b a (w.setCell ⟨c,i,none⟩ v) :=
 ⟨h.os,h.tape,h.output,by simpa [World.setCell] using h.size,fun k hk hne=>by
  rw [Below.heap_setCell _ _ _ _ (by simp;omega)];exact h.block k hk hne⟩
theorem Kept.at {b:Nat} {w w':World} (hk:Kept b w w') {c:Nat} {o:Obj} (h:w.heap[c]?=some o) (hne:c≠b):w'.heap[c]?=some o:=by
 rw [hk.block c (lt_of_at h) hne];exact h
def RS.cells (σ:RS):Array Value:=#[.int .i64 σ.kind,.string ⟨σ.text.toArray⟩,.string ⟨σ.rest.toArray⟩,.int .i64 σ.opn,.int .i64 σ.errno]
def AtR (w:World) (rb:Nat) (σ:RS):Prop:=w.heap[rb]?=some (.cells σ.cells 230)
theorem AtR.c0 {w:World} {rb:Nat} {σ:RS} (h:AtR w rb σ):w.cell? ⟨rb,0,none⟩=some (.int .i64 σ.kind):=cell_at h 0
theorem AtR.c1 {w:World} {rb:Nat} {σ:RS} (h:AtR w rb σ):w.cell? ⟨rb,1,none⟩=some (.string ⟨σ.text.toArray⟩):=cell_at h 1
theorem AtR.c2 {w:World} {rb:Nat} {σ:RS} (h:AtR w rb σ):w.cell? ⟨rb,2,none⟩=some (.string ⟨σ.rest.toArray⟩):=cell_at h 2
theorem AtR.c3 {w:World} {rb:Nat} {σ:RS} (h:AtR w rb σ):w.cell? ⟨rb,3,none⟩=some (.int .i64 σ.opn):=cell_at h 3
theorem AtR.c4 {w:World} {rb:Nat} {σ:RS} (h:AtR w rb σ):w.cell? ⟨rb,4,none⟩=some (.int .i64 σ.errno):=cell_at h 4
theorem AtR.fz {w:World} {rb:Nat} {σ:RS} (h:AtR w rb σ) (o:Nat):w.frozen? ⟨rb,o,none⟩=false:=frozen_at h o
end Go.Proofs.YtnhidaamfnjdjaaGreatDoor
namespace Go.Proofs.YtnhidaamfnjdjaaGreatDoor
open Go.RowKit
def RepE (w:World):PE->Nat->Nat->Option Addr->Prop
 | .nil,lo,hi,v=>lo≤hi∧v=none
 | .num n,lo,hi,v=>∃ b,lo≤b∧b<hi∧v=some ⟨b,0,none⟩∧w.heap[b]?=some (.cells #[.int .i64 0,.int .i64 n,.string ⟨#[]⟩,.int .i64 0,.int .u8 0,.pointer none,.pointer none] 236)
 | .var n d,lo,hi,v=>∃ b,lo≤b∧b<hi∧v=some ⟨b,0,none⟩∧w.heap[b]?=some (.cells #[.int .i64 1,.int .i64 0,.string ⟨n.toArray⟩,.int .i64 d,.int .u8 0,.pointer none,.pointer none] 236)
 | .pair op l r,lo,hi,v=>∃ b m1 m2 vl vr,lo≤m1∧m1≤m2∧m2≤b∧b<hi∧v=some ⟨b,0,none⟩∧w.heap[b]?=some (.cells #[.int .i64 2,.int .i64 0,.string ⟨#[]⟩,.int .i64 0,.int .u8 op.toNat,.pointer vl,.pointer vr] 236)∧RepE w l lo m1 vl∧RepE w r m1 m2 vr
theorem RepE.le {w:World}:∀ {e:PE} {lo hi:Nat} {v:Option Addr},RepE w e lo hi v->lo≤hi
 | .nil,_,_,_,h=>h.1
 | .num _,_,_,_,⟨_,h1,h2,_⟩=>by omega
 | .var _ _,_,_,_,⟨_,h1,h2,_⟩=>by omega
 | .pair _ _ _,_,_,_,⟨_,_,_,_,_,h1,h2,h3,h4,_⟩=>by omega
theorem RepE.widen {w:World}:∀ {e:PE} {lo hi lo' hi':Nat} {v:Option Addr},RepE w e lo hi v->lo'≤lo->hi≤hi'->RepE w e lo' hi' v
 | .nil,_,_,_,_,_,h,a,b=>⟨by have:=h.1;omega,h.2⟩
 | .num _,_,_,_,_,_,⟨c,h1,h2,h3⟩,a,b=>⟨c,by omega,by omega,h3⟩
 | .var _ _,_,_,_,_,_,⟨c,h1,h2,h3⟩,a,b=>⟨c,by omega,by omega,h3⟩
 | .pair _ _ _,_,_,_,_,_,⟨c,m1,m2,vl,vr,h1,h2,h3,h4,h5,h6,hl,hr⟩,a,b =>
  ⟨c,m1,m2,vl,vr,by omega,h2,h3,by omega,h5,h6,RepE.widen hl a (Nat.le_refl _),hr⟩
theorem RepE.frame {w w':World}:∀ {e:PE} {lo hi:Nat} {v:Option Addr},RepE w e lo hi v->(∀ k,lo≤k->k<hi->w'.heap[k]?=w.heap[k]?)->RepE w' e lo hi v
 | .nil,_,_,_,h,_=>h
 | .num _,_,_,_,⟨c,h1,h2,h3,h4⟩,f=>⟨c,h1,h2,h3,by rw [f c h1 h2];exact h4⟩
 | .var _ _,_,_,_,⟨c,h1,h2,h3,h4⟩,f=>⟨c,h1,h2,h3,by rw [f c h1 h2];exact h4⟩
 | .pair _ _ _,_,_,_,⟨c,m1,m2,vl,vr,h1,h2,h3,h4,h5,h6,hl,hr⟩,f =>
  ⟨c,m1,m2,vl,vr,h1,h2,h3,h4,h5,by rw [f c (by omega) h4];exact h6,RepE.frame hl (fun k a b=>f k a (by omega)),RepE.frame hr (fun k a b=>f k (by omega) (by omega))⟩
theorem RepE.kept {w w':World} {rb:Nat} (hk:Kept rb w w') {e:PE} {lo hi:Nat} {v:Option Addr} (h:RepE w e lo hi v) (hr:rb<lo) (hh:hi≤w.heap.size):RepE w' e lo hi v :=
 h.frame (fun k a b=>hk.block k (by omega) (by omega))
theorem Kept.cell {rb:Nat} {w w':World} (hk:Kept rb w w') {b i:Nat} {v:Value} (h:w.cell? ⟨b,i,none⟩=some v) (hne:b≠rb):w'.cell? ⟨b,i,none⟩=some v:=by
 have hlt:b<w.heap.size:=by
  rcases Nat.lt_or_ge b w.heap.size with h'|h'
  ·exact h'
  ·simp [World.cell?,Array.getElem?_eq_none h'] at h
 have:=hk.block b hlt hne
 simpa [World.cell?,this] using h
end Go.Proofs.YtnhidaamfnjdjaaGreatDoor
namespace Go.Proofs.YtnhidaamfnjdjaaGreatDoor
open Go.RowKit
def RepP (w:World) (p:LP) (line:Int) (lo hi:Nat) (b:Nat):Prop :=
 ∃ mid ve,lo≤mid∧mid≤b∧b<hi∧w.heap[b]?=some (.cells #[.int .i64 p.kind,.int .i64 line,.string ⟨p.name.toArray⟩,.int .i64 0,.string ⟨p.chan.toArray⟩,.int .i64 0,.pointer ve,.slice none 0 0] 115)∧RepE w p.expr lo mid ve
def ReadsP (rb:Nat) (w:World) (q:LP×RS) (e:Ending) (w':World):Prop :=
 ∃ b,e=.returned (.pointer (some ⟨b,0,none⟩))∧RepP w' q.1 0 w.heap.size w'.heap.size b∧AtR w' rb q.2∧Kept rb w w'
abbrev nm (n:Bs):Value:=.agg #[.string ⟨n.toArray⟩,.int .i64 0]
end Go.Proofs.YtnhidaamfnjdjaaGreatDoor
