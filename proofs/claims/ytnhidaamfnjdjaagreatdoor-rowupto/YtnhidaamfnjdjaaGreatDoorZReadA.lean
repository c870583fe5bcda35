import Derived.Test.YtnhidaamfnjdjaaGreatDoorZScan
import Derived.Test.YtnhidaamfnjdjaaGreatDoorZHeap
import Derived.Test.YtnhidaamfnjdjaaGreatDoorZPure
namespace Go.Proofs.YtnhidaamfnjdjaaGreatDoor
open Go.RowKit
set_option maxHeartbeats 400000 in
theorem rnext_any (rb:Nat) (σ:RS) (w:World) (h:AtR w rb σ) (hs:σ.rest.length≤maxLen) :
  Calls Tryz.prog 177 #[.pointer (some ⟨rb,0,none⟩)] w fun e w'=>e=.returned (.tuple #[])∧AtR w' rb σ.next∧Kept rb w w':=by
 have H:=hide h
 have c2:=h.c2
 clear h
 go_enter Tryz.func177,Tryz.ntmps177
 go_wp2_with (go_at_call 205;refine (next_any _ _ hs).mono ?_;rintro e w' ⟨rfl,hb⟩;have h1:AtR w' rb σ:=Below.at hb H.out (lt_of_at H.out);have d0:=h1.c0;have d1:=h1.c1;have d2:=h1.c2;have fz:=h1.fz;have H1:=hide h1;clear h1;unfold Tk.val)
 go_end0
 refine⟨rfl,at_setCell (at_setCell (at_setCell H1.out _ _) _ _) _ _,(((Kept.below hb).setCell _ _).setCell _ _).setCell _ _⟩
set_option maxHeartbeats 400000 in
theorem fail_any (rb:Nat) (σ:RS) (e0:Int) (w:World) (h:AtR w rb σ) :
  Calls Tryz.prog 179 #[.pointer (some ⟨rb,0,none⟩),.int .i64 e0] w fun e w'=>e=.returned (.tuple #[])∧AtR w' rb (σ.fail e0)∧Kept rb w w':=by
 have H:=hide h
 have c0:=h.c0;have c1:=h.c1;have c2:=h.c2;have c4:=h.c4;have fz:=h.fz
 clear h
 by_cases he:σ.errno=0
 ·have he':(σ.errno == 0)=true:=by simp [he]
  have hq:Hid (σ.fail e0={ σ with kind:=1,text:=[],rest:=[],errno:=e0 }):=by apply hide;unfold RS.fail;rw [if_pos he]
  clear he
  go_enter Tryz.func179,Tryz.ntmps179
  go_wp2
  go_end0
  rw [hq.out]
  refine⟨rfl,at_setCell (at_setCell (at_setCell (at_setCell H.out _ _) _ _) _ _) _ _,((((Kept.refl _ _).setCell _ _).setCell _ _).setCell _ _).setCell _ _⟩
 ·have he':(σ.errno == 0)=false:=by simp [he]
  have hq:Hid (σ.fail e0={ σ with kind:=1,text:=[],rest:=[] }):=by apply hide;unfold RS.fail;rw [if_neg he]
  clear he
  go_enter Tryz.func179,Tryz.ntmps179
  go_wp2
  go_end0
  rw [hq.out]
  refine⟨rfl,at_setCell (at_setCell (at_setCell H.out _ _) _ _) _ _,(((Kept.refl _ _).setCell _ _).setCell _ _).setCell _ _⟩
set_option maxHeartbeats 400000 in
theorem take_yes (rb:Nat) (σ:RS) (t:Bs) (w:World) (h:AtR w rb σ) (hs:σ.rest.length≤maxLen) (he:σ.text=t) :
  Calls Tryz.prog 229 #[.pointer (some ⟨rb,0,none⟩),.string ⟨t.toArray⟩] w fun e w'=>e=.returned (.bool true)∧AtR w' rb σ.next∧Kept rb w w':=by
 have H:=hide h
 have c1:=h.c1
 clear h
 have hx:(!σ.text == t)=false:=by simp [he]
 clear he
 go_enter Tryz.func229,Tryz.ntmps229
 go_wp2_with (go_at_call 177;refine (rnext_any _ _ _ H.out hs).mono ?_;rintro e w' ⟨rfl,h1,k1⟩;have H1:=hide h1;clear h1)
 go_ret
 exact⟨rfl,H1.out,k1⟩
set_option maxHeartbeats 400000 in
theorem take_no (rb:Nat) (σ:RS) (t:Bs) (w:World) (h:AtR w rb σ) (he:σ.text≠t) :
  Calls Tryz.prog 229 #[.pointer (some ⟨rb,0,none⟩),.string ⟨t.toArray⟩] w fun e w'=>e=.returned (.bool false)∧w'=w:=by
 have c1:=h.c1
 clear h
 have hx:(!σ.text == t)=true:=by simp [he]
 clear he
 go_enter Tryz.func229,Tryz.ntmps229
 go_wp2_with fail
 go_ret
 exact⟨rfl,rfl⟩
set_option maxHeartbeats 400000 in
theorem need_any (rb:Nat) (σ:RS) (t:Bs) (w:World) (h:AtR w rb σ) (hs:σ.rest.length≤maxLen) :
  Calls Tryz.prog 206 #[.pointer (some ⟨rb,0,none⟩),.string ⟨t.toArray⟩] w fun e w'=>e=.returned (.tuple #[])∧AtR w' rb (σ.need t)∧Kept rb w w':=by
 have H:=hide h
 clear h
 by_cases he:σ.text=t
 ·have hq:Hid (σ.need t=σ.next):=by apply hide;unfold RS.need;rw [if_pos he]
  have He:=hide he
  clear he
  go_enter Tryz.func206,Tryz.ntmps206
  go_wp2_with (go_at_call 229;refine (take_yes _ _ _ _ H.out hs He.out).mono ?_;rintro e w' ⟨rfl,h1,k1⟩;have H1:=hide h1;clear h1)
  go_end0
  rw [hq.out]
  exact⟨rfl,H1.out,k1⟩
 ·have hq:Hid (σ.need t=σ.fail 2):=by apply hide;unfold RS.need;rw [if_neg he]
  have He:Hid (σ.text≠t):=he
  clear he
  go_enter Tryz.func206,Tryz.ntmps206
  go_wp2_with (first|(go_at_call 229;refine (take_no _ _ _ _ H.out He.out).mono ?_;rintro e w' ⟨rfl,rfl⟩)|(go_at_call 179;refine (fail_any _ _ _ _ H.out).mono ?_;rintro e w' ⟨rfl,h1,k1⟩;have H1:=hide h1;clear h1))
  go_end0
  rw [hq.out]
  exact⟨rfl,H1.out,k1⟩
end Go.Proofs.YtnhidaamfnjdjaaGreatDoor
namespace Go.Proofs.YtnhidaamfnjdjaaGreatDoor
open Go.RowKit
set_option maxHeartbeats 1000000 in
theorem reserved_yes (t:Bs) (w:World) (h:t∈wordsB) :
  Calls Tryz.prog 245 #[.string ⟨t.toArray⟩] w fun e w'=>e=.returned (.bool true)∧w'=w:=by
 simp only [wordsB,List.mem_cons,List.not_mem_nil,or_false] at h
 rcases h with rfl|rfl|rfl|rfl|rfl|rfl|rfl|rfl|rfl|rfl|rfl|rfl|rfl|rfl|rfl
 all_goals
  simp only [wSkip,wStop,wWait,wSeq,wPar,wPri,wWhile,wIf,wWhen,wAlt,wOn,wVar,wChan,wIn,wOut]
  go_enter Tryz.func245,Tryz.ntmps245
  go_wp2
  go_ret
  exact⟨rfl,rfl⟩
set_option maxHeartbeats 1000000 in
theorem reserved_no (t:Bs) (w:World) (h:t∉wordsB) :
  Calls Tryz.prog 245 #[.string ⟨t.toArray⟩] w fun e w'=>e=.returned (.bool false)∧w'=w:=by
 simp only [wordsB,List.mem_cons,List.not_mem_nil,or_false,not_or,wSkip,wStop,wWait,wSeq,wPar,wPri,wWhile,wIf,wWhen,wAlt,wOn,wVar,wChan,wIn,wOut] at h
 obtain⟨h1,h2,h3,h4,h5,h6,h7,h8,h9,h10,h11,h12,h13,h14,h15⟩:=h
 have h1:=beq_eq_false_iff_ne.2 h1
 have h2:=beq_eq_false_iff_ne.2 h2
 have h3:=beq_eq_false_iff_ne.2 h3
 have h4:=beq_eq_false_iff_ne.2 h4
 have h5:=beq_eq_false_iff_ne.2 h5
 have h6:=beq_eq_false_iff_ne.2 h6
 have h7:=beq_eq_false_iff_ne.2 h7
 have h8:=beq_eq_false_iff_ne.2 h8
 have h9:=beq_eq_false_iff_ne.2 h9
 have h10:=beq_eq_false_iff_ne.2 h10
 have h11:=beq_eq_false_iff_ne.2 h11
 have h12:=beq_eq_false_iff_ne.2 h12
 have h13:=beq_eq_false_iff_ne.2 h13
 have h14:=beq_eq_false_iff_ne.2 h14
 have h15:=beq_eq_false_iff_ne.2 h15
 go_enter Tryz.func245,Tryz.ntmps245
 go_wp2
 go_ret
 exact⟨rfl,rfl⟩
theorem reserved_any (t:Bs) (w:World) :
  Calls Tryz.prog 245 #[.string ⟨t.toArray⟩] w fun e w'=>e=.returned (.bool (reservedB t))∧w'=w:=by
 by_cases h:t∈wordsB
 ·have:reservedB t=true:=by simpa [reservedB] using h
  rw [this];exact reserved_yes t w h
 ·have:reservedB t=false:=by simpa [reservedB] using h
  rw [this];exact reserved_no t w h
set_option maxHeartbeats 400000 in
theorem atName_any (rb:Nat) (σ:RS) (w:World) (h:AtR w rb σ) :
  Calls Tryz.prog 233 #[.pointer (some ⟨rb,0,none⟩)] w fun e w'=>e=.returned (.bool σ.atName)∧w'=w:=by
 have c0:=h.c0;have c1:=h.c1
 clear h
 by_cases hk:σ.kind=2
 ·have hk':(σ.kind == 2)=true:=by simp [hk]
  have hq:Hid (σ.atName=!(reservedB σ.text)):=by apply hide;simp [RS.atName,hk]
  clear hk
  go_enter Tryz.func233,Tryz.ntmps233
  go_wp2_with (go_at_call 245;refine (reserved_any _ _).mono ?_;rintro e w' ⟨rfl,rfl⟩)
  go_ret
  exact⟨by rw [hq.out];rfl,rfl⟩
 ·have hk':(σ.kind == 2)=false:=by simp [hk]
  have hq:Hid (σ.atName=false):=by apply hide;simp [RS.atName,hk]
  clear hk
  go_enter Tryz.func233,Tryz.ntmps233
  go_wp2_with fail
  go_ret
  exact⟨by rw [hq.out];rfl,rfl⟩
set_option maxHeartbeats 400000 in
theorem name_any (rb:Nat) (σ:RS) (w:World) (h:AtR w rb σ) (hs:σ.rest.length≤maxLen) :
  Calls Tryz.prog 235 #[.pointer (some ⟨rb,0,none⟩)] w fun e w'=>e=.returned (.agg #[.string ⟨σ.name.1.toArray⟩,.int .i64 0])∧AtR w' rb σ.name.2∧Kept rb w w':=by
 have H:=hide h
 have c1:=h.c1
 have hlt:=lt_of_at h
 clear h
 cases hk:σ.atName with
 | true =>
  have hq:Hid (σ.name=(σ.text,σ.next)):=by apply hide;simp [RS.name,hk]
  have hk':Hid (σ.atName=true):=hk
  clear hk
  go_enter Tryz.func235,Tryz.ntmps235
  go_wp2_with (first|(go_at_call 233;refine (atName_any _ σ _ (at_alloc H.out _)).mono ?_;rw [hk'.out];rintro e w' ⟨rfl,rfl⟩)|(go_at_call 177;refine (rnext_any _ σ _ (at_alloc (at_alloc H.out _) _) hs).mono ?_;rintro e w' ⟨rfl,h1,k1⟩;have H1:=hide h1;clear h1;have e0:=k1.at (at_alloc (at_new _ _) _) (by omega);have e1:=k1.at (at_new _ _) (by simp;omega);simp only [World.size_alloc] at e1;have f0:=fun i=>cell_at e0 i;have f1:=fun i=>cell_at e1 i;have g0:=fun i=>frozen_at e0 i;have E0:=hide e0;clear e0 e1))
  refine bodyPost_ret (v:=.agg #[.string ⟨σ.text.toArray⟩,.int .i64 0]) (by simp [results,Tryz.results235,go_sem,f0]) rfl ⟨by rw [hq.out],?_,?_⟩
  ·rw [hq.out]
   exact at_setCell_other (at_setCell_other H1.out (by omega) _ _) (by omega) _ _
  ·exact ((((Kept.refl _ _).alloc _).alloc _).trans k1).setNew (by omega) _ _ |>.setNew (by omega) _ _
 | false =>
  have hq:Hid (σ.name=([],σ.fail 2)):=by apply hide;simp [RS.name,hk]
  have hk':Hid (σ.atName=false):=hk
  clear hk
  go_enter Tryz.func235,Tryz.ntmps235
  go_wp2_with (first|(go_at_call 233;refine (atName_any _ σ _ (at_alloc H.out _)).mono ?_;rw [hk'.out];rintro e w' ⟨rfl,rfl⟩)|(go_at_call 179;refine (fail_any _ σ _ _ (at_alloc H.out _)).mono ?_;rintro e w' ⟨rfl,h1,k1⟩;have H1:=hide h1;clear h1;have e0:=k1.at (at_new _ _) (by omega);have f0:=fun i=>cell_at e0 i;have g0:=fun i=>frozen_at e0 i;have E0:=hide e0;clear e0))
  refine bodyPost_ret (v:=.agg #[.string ⟨#[]⟩,.int .i64 0]) (by simp [results,Tryz.results235,go_sem,f0]) rfl ⟨by rw [hq.out],?_,?_⟩
  ·rw [hq.out]
   exact at_setCell_other (at_setCell_other H1.out (by omega) _ _) (by omega) _ _
  ·exact (((Kept.refl _ _).alloc _).trans k1).setNew (by omega) _ _ |>.setNew (by omega) _ _
end Go.Proofs.YtnhidaamfnjdjaaGreatDoor
namespace Go.Proofs.YtnhidaamfnjdjaaGreatDoor
open Go.RowKit
set_option maxHeartbeats 400000 in
theorem atOp_any (rb:Nat) (σ:RS) (m:Int) (w:World) (h:AtR w rb σ) (hm:w.cell? ⟨0,0,none⟩=some (.int .i64 m)) :
  Calls Tryz.prog 242 #[.pointer (some ⟨rb,0,none⟩)] w fun e w'=>e=.returned (.bool σ.atOp)∧w'=w:=by
 have c0:=h.c0;have c1:=h.c1
 clear h
 have Hm:=hide hm
 clear hm
 by_cases hk:σ.kind=4
 ·have hk':(σ.kind == 4)=true:=by simp [hk]
  have hq:Hid (σ.atOp=Lib.contains opersB σ.text):=by apply hide;simp [RS.atOp,hk]
  clear hk
  go_enter Tryz.func242,Tryz.ntmps242
  go_wp2_with (go_at_call 247;refine (Tryz.strings_Contains _ _ m _ (by decide) Hm.out).mono ?_;rintro e w' ⟨rfl,rfl⟩)
  go_ret
  exact⟨by rw [hq.out];rfl,rfl⟩
 ·have hk':(σ.kind == 4)=false:=by simp [hk]
  have hq:Hid (σ.atOp=false):=by apply hide;simp [RS.atOp,hk]
  clear hk
  go_enter Tryz.func242,Tryz.ntmps242
  go_wp2_with fail
  go_ret
  exact⟨by rw [hq.out];rfl,rfl⟩
theorem Kept.bytesWorld {b:Nat} {a w:World} (h:Kept b a w) (e:TypeId) (t:ByteArray):Kept b a (Lib.bytesWorld w e t):=by
 exact h.trans ⟨rfl,rfl,rfl,by rw [Lib.bytesWorld_size];omega,fun k hk _=>Lib.bytesWorld_at_old w e t k hk⟩
set_option maxHeartbeats 400000 in
theorem number_any (rb:Nat) (σ:RS) (w:World) (h:AtR w rb σ) (ok:σ.Ok) (hk:σ.kind=3) :
  Calls Tryz.prog 244 #[.pointer (some ⟨rb,0,none⟩)] w fun e w'=>∃ v,e=.returned (.pointer v)∧RepE w' (.num ((Lib.atoi σ.text).getD 0)) w.heap.size w'.heap.size v∧AtR w' rb σ.next∧Kept rb w w':=by
 have H:=hide h
 have c1:=h.c1
 have hs:σ.rest.length≤maxLen:=Nat.le_trans ok.rest (by decide)
 obtain⟨n,hn,hl⟩:=ok.num hk
 have Hn:=hide hn
 clear h hn hk ok
 go_enter Tryz.func244,Tryz.ntmps244
 go_wp2_with fail
 refine (Tryz.strconv_Atoi _ n (by simpa [ByteArray.size] using hl) (by simpa using Hn.out) _).mono ?_
 rintro e w' ⟨rfl,t,rfl⟩
 have k0:Kept rb w (Lib.bytesWorld w 5 t):=(Kept.refl _ _).bytesWorld _ _
 have h0:AtR (Lib.bytesWorld w 5 t) rb σ:=(Kept.bytesWorld (b:=w.heap.size) (Kept.refl _ _) 5 t).at H.out (by have:=lt_of_at H.out;omega)
 have K0:=hide k0;have H0:=hide h0
 clear k0 h0
 generalize Lib.bytesWorld w 5 t=w0 at K0 H0 ⊢
 go_wp2_with (go_at_call 177;refine (rnext_any _ σ _ H0.out hs).mono ?_;rintro e w' ⟨rfl,h1,k1⟩;have H1:=hide h1;clear h1)
 go_ret
 rw [Hn.out]
 refine⟨_,rfl,⟨w'.heap.size,?_,?_,rfl,at_new _ _⟩,at_alloc H1.out _,(K0.out.trans k1).alloc _⟩
 ·have:=(K0.out.trans k1).size;omega
 ·simp
end Go.Proofs.YtnhidaamfnjdjaaGreatDoor
namespace Go.Proofs.YtnhidaamfnjdjaaGreatDoor
open Go.RowKit
def OperandSaid (n:Nat):Prop:=∀ (rb:Nat) (σ:RS) (m:Int) (w:World),AtR w rb σ->σ.Ok->σ.opn=4 - (n:Int)->w.cell? ⟨0,0,none⟩=some (.int .i64 m)->rb≠0 ->
 Calls Tryz.prog 231 #[.pointer (some ⟨rb,0,none⟩)] w fun e w'=>∃ v,e=.returned (.pointer v)∧RepE w' (operandF n σ).1 w.heap.size w'.heap.size v∧AtR w' rb (operandF n σ).2∧Kept rb w w'
def ExprSaid (n:Nat):Prop:=∀ (rb:Nat) (σ:RS) (m:Int) (w:World),AtR w rb σ->σ.Ok->σ.opn=4 - (n:Int)->w.cell? ⟨0,0,none⟩=some (.int .i64 m)->rb≠0 ->
 Calls Tryz.prog 207 #[.pointer (some ⟨rb,0,none⟩)] w fun e w'=>∃ v,e=.returned (.pointer v)∧RepE w' (exprF n σ).1 w.heap.size w'.heap.size v∧AtR w' rb (exprF n σ).2∧Kept rb w w'
set_option maxHeartbeats 400000 in
theorem exprFrom_no (rb:Nat) (σ:RS) (m:Int) (vl:Option Addr) (w:World) (h:AtR w rb σ) (hm:w.cell? ⟨0,0,none⟩=some (.int .i64 m)) (hop:σ.atOp=false) :
  Calls Tryz.prog 230 #[.pointer (some ⟨rb,0,none⟩),.pointer vl] w fun e w'=>e=.returned (.pointer vl)∧w'=w:=by
 have H:=hide h
 have Hm:=hide hm
 have Ho:=hide hop
 clear h hm hop
 go_enter Tryz.func230,Tryz.ntmps230
 go_wp2_with (go_at_call 242;refine (atOp_any _ σ m _ H.out Hm.out).mono ?_;rw [Ho.out];rintro e w' ⟨rfl,rfl⟩)
 go_ret
 exact⟨rfl,rfl⟩
set_option maxHeartbeats 400000 in
theorem exprFrom_any (n:Nat) (ih:OperandSaid n) (rb:Nat) (σ:RS) (m:Int) (left:PE) (lo:Nat) (vl:Option Addr) (w:World) (h:AtR w rb σ) (ok:σ.Ok) (ho:σ.opn=4 - (n:Int))
  (hm:w.cell? ⟨0,0,none⟩=some (.int .i64 m)) (h0:rb≠0) (hl:RepE w left lo w.heap.size vl) (hlo:rb<lo) :
  Calls Tryz.prog 230 #[.pointer (some ⟨rb,0,none⟩),.pointer vl] w fun e w'=>∃ v,e=.returned (.pointer v)∧RepE w' (fromF (operandF n) (left,σ)).1 lo w'.heap.size v∧AtR w' rb (fromF (operandF n) (left,σ)).2∧Kept rb w w':=by
 cases hop:σ.atOp with
 | false =>
  refine (exprFrom_no rb σ m vl w h hm hop).mono ?_
  rintro e w' ⟨rfl,rfl⟩
  have e1:fromF (operandF n) (left,σ)=(left,σ):=by simp [fromF,hop]
  rw [e1]
  exact⟨vl,rfl,hl,h,Kept.refl _ _⟩
 | true =>
  have e1:fromF (operandF n) (left,σ)=(.pair (σ.text.headD 0) left (operandF n σ.next).1,(operandF n σ.next).2):=by simp [fromF,hop]
  rw [e1]
  have hk:σ.kind=4:=by
   unfold RS.atOp at hop
   simp at hop
   exact hop.1
  obtain⟨c,r,hc⟩:∃ c r,σ.text=c :: r:=by
   have:=ok.sign hk
   cases ht:σ.text with
   | nil=>exact absurd ht this
   | cons c r=>exact⟨c,r,rfl⟩
  have hd:σ.text.headD 0=c:=by rw [hc];rfl
  rw [hd]
  have H:=hide h
  have Hm:=hide hm
  have Ho:=hide hop
  have Hok:=hide ok
  have Hopn:=hide ho
  have Hl:=hide hl
  have c1:=h.c1
  rw [hc] at c1
  have i0:∀ h,(⟨(c :: r).toArray⟩:ByteArray)[0]'h=c:=fun _=>rfl
  have hs:σ.rest.length≤maxLen:=Nat.le_trans ok.rest (by decide)
  clear h hm hop ok ho hl hc hd hk e1
  go_enter Tryz.func230,Tryz.ntmps230
  go_wp2_with (first|(go_at_call 242;refine (atOp_any _ σ m _ H.out Hm.out).mono ?_;rw [Ho.out];rintro e wx ⟨rfl,hw⟩;have hw:=hw.symm;subst hw)|(go_at_call 177;refine (rnext_any _ σ _ H.out hs).mono ?_;rintro e w1 ⟨rfl,h1,k1⟩;have H1:=hide h1;have K1:=hide k1;clear h1 k1)|(go_at_call 231;refine (ih rb σ.next m _ H1.out Hok.out.next Hopn.out (K1.out.cell Hm.out (Ne.symm h0)) h0).mono ?_;rintro e w2 ⟨v2,rfl,r2,h2,k2⟩;have H2:=hide h2;have K2:=hide k2;have R2:=hide r2;clear h2 k2 r2))
  go_ret
  have hlt:=lt_of_at H.out
  have s1:=K1.out.size
  have s2:=K2.out.size
  refine⟨_,rfl,⟨w2.heap.size,w.heap.size,w2.heap.size,vl,v2,?_,?_,?_,?_,rfl,at_new _ _,?_,?_⟩,at_alloc H2.out _,(K1.out.trans K2.out).alloc _⟩
  ·exact Hl.out.le
  ·omega
  ·omega
  ·simp
  ·exact ((RepE.kept (K1.out.trans K2.out) Hl.out hlo (Nat.le_refl _))).frame (fun k a b=>Below.heap_alloc _ _ _ (by omega))
  ·exact (R2.out.widen s1 (Nat.le_refl _)).frame (fun k a b=>Below.heap_alloc _ _ _ (by omega))
set_option maxHeartbeats 400000 in
theorem expr_of (n:Nat) (ih:OperandSaid n):ExprSaid n:=by
 intro rb σ m w h ok ho hm h0
 have H:=hide h
 have Hm:=hide hm
 have Hok:=hide ok
 have Hopn:=hide ho
 have hlt:=lt_of_at h
 have Hq:=hide (operandF_ok n σ ok)
 clear h ok ho hm
 go_enter Tryz.func207,Tryz.ntmps207
 go_wp2_with (first|(go_at_call 231;refine (ih rb σ m _ H.out Hok.out Hopn.out Hm.out h0).mono ?_;rintro e w2 ⟨v2,rfl,r2,h2,k2⟩;have H2:=hide h2;have K2:=hide k2;have R2:=hide r2;clear h2 k2 r2)|(go_at_call 230;refine (exprFrom_any n ih rb (operandF n σ).2 m (operandF n σ).1 w.heap.size v2 _ H2.out Hq.out.1 (Hq.out.2.trans Hopn.out) (K2.out.cell Hm.out (Ne.symm h0)) h0 R2.out hlt).mono ?_;rintro e w3 ⟨v3,rfl,r3,h3,k3⟩;have H3:=hide h3;have K3:=hide k3;have R3:=hide r3;clear h3 k3 r3))
 go_ret
 exact⟨v3,rfl,R3.out,H3.out,K2.out.trans K3.out⟩
set_option maxHeartbeats 400000 in
theorem bracketed_zero (rb:Nat) (σ:RS) (w:World) (h:AtR w rb σ) (ho:σ.opn=4) :
  Calls Tryz.prog 243 #[.pointer (some ⟨rb,0,none⟩)] w fun e w'=>e=.returned (.pointer none)∧AtR w' rb (σ.fail 3)∧Kept rb w w':=by
 have H:=hide h
 have c3:=h.c3
 have ho':(σ.opn == 4)=true:=by simp [ho]
 clear h ho
 go_enter Tryz.func243,Tryz.ntmps243
 go_wp2_with (go_at_call 179;refine (fail_any _ σ _ _ H.out).mono ?_;rintro e w' ⟨rfl,h1,k1⟩;have H1:=hide h1;clear h1)
 go_ret
 exact⟨rfl,H1.out,k1⟩
set_option maxHeartbeats 400000 in
theorem bracketed_succ (n:Nat) (ih:ExprSaid n) (rb:Nat) (σ:RS) (m:Int) (w:World) (h:AtR w rb σ) (ok:σ.Ok) (ho:σ.opn=4 - ((n+1:Nat):Int))
  (hn:n<4) (hm:w.cell? ⟨0,0,none⟩=some (.int .i64 m)) (h0:rb≠0) :
  Calls Tryz.prog 243 #[.pointer (some ⟨rb,0,none⟩)] w fun e w'=>∃ v,e=.returned (.pointer v)∧RepE w' (innerF (operandF n) σ).1 w.heap.size w'.heap.size v∧AtR w' rb (innerF (operandF n) σ).2∧Kept rb w w':=by
 have ho':(σ.opn == 4)=false:=by rw [beq_eq_false_iff_ne];omega
 have b1:-1≤σ.opn:=by omega
 have b2:σ.opn≤4:=by omega
 generalize hσ1:({ σ with opn:=σ.opn+1 }:RS)=σ1
 have ok1:σ1.Ok:=by rw [<-hσ1];exact ok.opn _
 have o1:σ1.opn=4 - (n:Int):=by rw [<-hσ1];simp only [];omega
 have e1:innerF (operandF n) σ=((exprF n (σ1.need [40])).1,{ (exprF n (σ1.need [40])).2.need [41] with opn:=((exprF n (σ1.need [40])).2.need [41]).opn - 1 }):=by
  unfold innerF exprF;rw [hσ1]
 rw [e1]
 have okn:(σ1.need [40]).Ok:=ok1.need _
 have on:(σ1.need [40]).opn=4 - (n:Int):=by rw [RS.need_opn];exact o1
 have oke:=exprF_ok n _ okn
 have hz:(exprF n (σ1.need [40])).2.rest.length≤maxLen:=Nat.le_trans oke.1.rest (by decide)
 generalize hq:exprF n (σ1.need [40])=q at hz oke ⊢
 have of:((q.2.need [41]).opn)=4 - (n:Int):=by rw [RS.need_opn,oke.2];exact on
 have H:=hide h
 have H1:Hid (AtR (w.setCell ⟨rb,3,none⟩ (.int .i64 (σ.opn+1))) rb σ1):=by
  apply hide;rw [<-hσ1];exact at_setCell h _ _
 have Hm:=hide hm
 have Hok1:=hide ok1
 have Hokn:=hide okn
 have Hon:=hide on
 have Hq:=hide hq
 have Hoq:=hide oke.1
 have Hof:=hide of
 have c3:=h.c3
 have fz:=h.fz
 have hs:σ1.rest.length≤maxLen:=Nat.le_trans ok1.rest (by decide)
 have hlt:=lt_of_at h
 clear h hm ok ho ok1 o1 e1 okn on hq oke of hσ1
 go_enter Tryz.func243,Tryz.ntmps243
 go_wp2_with fail
 refine (need_any rb σ1 [40] _ H1.out hs).mono ?_
 rintro e w2 ⟨rfl,h2,k2⟩
 have k2':Kept rb w w2:=((Kept.refl _ _).setCell _ _).trans k2
 have H2:=hide h2;have K2:=hide k2'
 clear h2 k2 k2'
 go_wp2_with fail
 refine (ih rb _ m _ H2.out Hokn.out Hon.out (K2.out.cell Hm.out (Ne.symm h0)) h0).mono ?_
 rw [Hq.out]
 rintro e w3 ⟨v3,rfl,r3,h3,k3⟩
 have H3:=hide h3;have K3:=hide k3;have R3:=hide r3
 clear h3 k3 r3
 go_wp2_with fail
 refine (need_any rb _ [41] _ H3.out hz).mono ?_
 rintro e w4 ⟨rfl,h4,k4⟩
 have d3:=h4.c3
 have fz4:=h4.fz
 rw [Hof.out] at d3
 have H4:=hide h4;have K4:=hide k4
 clear h4 k4
 go_wp2
 go_ret
 have s2:=K2.out.size
 have s3:=K3.out.size
 have s4:=K4.out.size
 refine⟨v3,rfl,?_,?_,((K2.out.trans K3.out).trans K4.out).setCell _ _⟩
 ·refine ((RepE.kept K4.out R3.out (by omega) (Nat.le_refl _)).widen s2 s4).frame (fun k a b=>?_) |>.widen (Nat.le_refl _) (by simp [World.setCell])
  exact Below.heap_setCell _ _ _ _ (by simp;omega)
 ·rw [Hof.out]
  have:=at_setCell H4.out 3 (.int .i64 (4 - (n:Int) - 1))
  exact this
end Go.Proofs.YtnhidaamfnjdjaaGreatDoor
namespace Go.Proofs.YtnhidaamfnjdjaaGreatDoor
open Go.RowKit
theorem operand_leaf (rb:Nat) (σ:RS) (w:World) (h:AtR w rb σ) (ok:σ.Ok) (ht:σ.text≠[40]) :
  Calls Tryz.prog 231 #[.pointer (some ⟨rb,0,none⟩)] w fun e w'=>∃ v,e=.returned (.pointer v)∧RepE w' (leafF σ).1 w.heap.size w'.heap.size v∧AtR w' rb (leafF σ).2∧Kept rb w w':=by
 have ht':(σ.text == [40])=false:=beq_eq_false_iff_ne.2 ht
 have H:=hide h
 have c0:=h.c0;have c1:=h.c1
 have Hok:=hide ok
 have hs:σ.rest.length≤maxLen:=Nat.le_trans ok.rest (by decide)
 clear h ok ht
 by_cases hk:σ.kind=3
 ·have hk':(σ.kind == 3)=true:=by simp [hk]
  have e1:leafF σ=(.num ((Lib.atoi σ.text).getD 0),σ.next):=by simp [leafF,hk]
  rw [e1]
  have Hk:=hide hk
  clear hk e1
  go_enter Tryz.func231,Tryz.ntmps231
  go_wp2_with (go_at_call 244;refine (number_any _ σ _ H.out Hok.out Hk.out).mono ?_;rintro e w2 ⟨v2,rfl,r2,h2,k2⟩;have H2:=hide h2;have K2:=hide k2;have R2:=hide r2;clear h2 k2 r2)
  go_ret
  exact⟨v2,rfl,R2.out,H2.out,K2.out⟩
 ·have hk':(σ.kind == 3)=false:=by simp [hk]
  have e1:leafF σ=(.var σ.name.1 0,σ.name.2):=by simp [leafF,hk]
  rw [e1]
  clear hk e1
  go_enter Tryz.func231,Tryz.ntmps231
  go_wp2_with (go_at_call 235;refine (name_any _ σ _ H.out hs).mono ?_;rintro e w2 ⟨rfl,h2,k2⟩;have H2:=hide h2;have K2:=hide k2;clear h2 k2)
  go_ret
  have s2:=K2.out.size
  exact⟨_,rfl,⟨w2.heap.size,s2,by simp,rfl,at_new _ _⟩,at_alloc H2.out _,K2.out.alloc _⟩
set_option maxHeartbeats 400000 in
theorem operand_zero:OperandSaid 0:=by
 intro rb σ m w h ok ho hm h0
 by_cases ht:σ.text=[40]
 ·have e1:operandF 0 σ=(.nil,σ.fail 3):=by simp [operandF,ht]
  rw [e1]
  have ht':(σ.text == [40])=true:=by simp [ht]
  have H:=hide h
  have c0:=h.c0;have c1:=h.c1
  have Ho:=hide ho
  clear h ok hm ht e1 ho
  go_enter Tryz.func231,Tryz.ntmps231
  go_wp2_with (go_at_call 243;refine (bracketed_zero _ σ _ H.out Ho.out).mono ?_;rintro e w2 ⟨rfl,h2,k2⟩;have H2:=hide h2;have K2:=hide k2;clear h2 k2)
  go_ret
  exact⟨none,rfl,⟨K2.out.size,rfl⟩,H2.out,K2.out⟩
 ·have e1:operandF 0 σ=leafF σ:=by simp [operandF,ht]
  rw [e1]
  exact operand_leaf rb σ w h ok ht
set_option maxHeartbeats 400000 in
theorem operand_succ (n:Nat) (hn:n<4) (ih:OperandSaid n):OperandSaid (n+1):=by
 intro rb σ m w h ok ho hm h0
 by_cases ht:σ.text=[40]
 ·have e1:operandF (n+1) σ=innerF (operandF n) σ:=by simp [operandF,ht]
  rw [e1]
  have ht':(σ.text == [40])=true:=by simp [ht]
  have H:=hide h
  have c0:=h.c0;have c1:=h.c1
  have Ho:=hide ho
  have Hok:=hide ok
  have Hm:=hide hm
  clear h ok hm ht e1 ho
  go_enter Tryz.func231,Tryz.ntmps231
  go_wp2_with (go_at_call 243;refine (bracketed_succ n (expr_of n ih) _ σ m _ H.out Hok.out Ho.out hn Hm.out h0).mono ?_;rintro e w2 ⟨v2,rfl,r2,h2,k2⟩;have H2:=hide h2;have K2:=hide k2;have R2:=hide r2;clear h2 k2 r2)
  go_ret
  exact⟨v2,rfl,R2.out,H2.out,K2.out⟩
 ·have e1:operandF (n+1) σ=leafF σ:=by simp [operandF,ht]
  rw [e1]
  exact operand_leaf rb σ w h ok ht
theorem operand_any:∀ n:Nat,n≤4->OperandSaid n
 | 0,_=>operand_zero
 | n+1,h=>operand_succ n (by omega) (operand_any n (by omega))
theorem expr_any (rb:Nat) (σ:RS) (m:Int) (w:World) (h:AtR w rb σ) (ok:σ.Ok) (ho:σ.opn=0) (hm:w.cell? ⟨0,0,none⟩=some (.int .i64 m)) (h0:rb≠0) :
  Calls Tryz.prog 207 #[.pointer (some ⟨rb,0,none⟩)] w fun e w'=>∃ v,e=.returned (.pointer v)∧RepE w' (exprF 4 σ).1 w.heap.size w'.heap.size v∧AtR w' rb (exprF 4 σ).2∧Kept rb w w' :=
 expr_of 4 (operand_any 4 (Nat.le_refl _)) rb σ m w h ok (by rw [ho];decide) hm h0
theorem exprFrom_4 (rb:Nat) (σ:RS) (m:Int) (left:PE) (lo:Nat) (vl:Option Addr) (w:World) (h:AtR w rb σ) (ok:σ.Ok) (ho:σ.opn=0)
  (hm:w.cell? ⟨0,0,none⟩=some (.int .i64 m)) (h0:rb≠0) (hl:RepE w left lo w.heap.size vl) (hlo:rb<lo) :
  Calls Tryz.prog 230 #[.pointer (some ⟨rb,0,none⟩),.pointer vl] w fun e w'=>∃ v,e=.returned (.pointer v)∧RepE w' (fromF (operandF 4) (left,σ)).1 lo w'.heap.size v∧AtR w' rb (fromF (operandF 4) (left,σ)).2∧Kept rb w w' :=
 exprFrom_any 4 (operand_any 4 (Nat.le_refl _)) rb σ m left lo vl w h ok (by rw [ho];decide) hm h0 hl hlo
end Go.Proofs.YtnhidaamfnjdjaaGreatDoor
namespace Go.Proofs.YtnhidaamfnjdjaaGreatDoor
open Go.RowKit
set_option maxHeartbeats 400000 in
theorem read_any (rb:Nat) (σ:RS) (kind:Int) (ch:Bs) (w:World) (h:AtR w rb σ) (ok:σ.Ok) :
  Calls Tryz.prog 232 #[.pointer (some ⟨rb,0,none⟩),.int .i64 kind,nm ch] w (ReadsP rb w (readF kind ch σ)):=by
 have H:=hide h
 have hlt:=lt_of_at h
 have hs:σ.rest.length≤maxLen:=Nat.le_trans ok.rest (by decide)
 have hs2:(σ.need [63]).rest.length≤maxLen:=Nat.le_trans (ok.need _).rest (by decide)
 clear h ok
 go_enter Tryz.func232,Tryz.ntmps232
 go_wp2_with fail
 refine (need_any rb σ [63] _ (at_alloc H.out _) hs).mono ?_
 rintro e w1 ⟨rfl,h1,k1⟩
 have e0:=k1.at (at_new _ _) (by omega)
 have f0:=fun i=>cell_at e0 i
 have H1:=hide h1;have K1:=hide k1;have E0:=hide e0
 clear h1 k1 e0
 go_wp2_with fail
 go_region_with (go_at_call 235;refine (name_any _ _ _ (by exact at_drew H1.out) hs2).mono ?_;rintro e w2 ⟨rfl,h2,k2⟩;have f2:=fun i=>cell_at (k2.at (at_drew E0.out) (by omega)) i;have H2:=hide h2;have K2:=hide k2;clear h2 k2)
 all_goals
  go_wp2
  go_ret
  have k0:Kept rb w w1.drew:=(((Kept.refl rb w).alloc _).trans K1.out).drew
  have k3:=k0.trans K2.out
  exact⟨_,rfl,⟨w.heap.size,none,Nat.le_refl _,k3.size,by simp,at_new _ _,Nat.le_refl _,rfl⟩,at_alloc H2.out _,k3.alloc _⟩
set_option maxHeartbeats 400000 in
theorem write_any (rb:Nat) (σ:RS) (m:Int) (ch:Bs) (w:World) (h:AtR w rb σ) (ok:σ.Ok) (ho:σ.opn=0) (hm:w.cell? ⟨0,0,none⟩=some (.int .i64 m)) (h0:rb≠0) :
  Calls Tryz.prog 236 #[.pointer (some ⟨rb,0,none⟩),nm ch] w (ReadsP rb w (writeF ch σ)):=by
 have H:=hide h
 have hlt:=lt_of_at h
 have hs:σ.rest.length≤maxLen:=Nat.le_trans ok.rest (by decide)
 have Hok:=hide (ok.need [33])
 have Hon:Hid ((σ.need [33]).opn=0):=(RS.need_opn _ _).trans ho
 have Hm:=hide hm
 clear h ok ho hm
 go_enter Tryz.func236,Tryz.ntmps236
 go_wp2_with fail
 refine (need_any rb σ [33] _ (at_alloc H.out _) hs).mono ?_
 rintro e w1 ⟨rfl,h1,k1⟩
 have e0:=k1.at (at_new _ _) (by omega)
 have f0:=fun i=>cell_at e0 i
 have hm1:w1.cell? ⟨0,0,none⟩=some (.int .i64 m):=(((Kept.refl rb w).alloc _).trans k1).cell Hm.out (Ne.symm h0)
 have Hm1:=hide hm1
 have H1:=hide h1;have K1:=hide k1;have E0:=hide e0
 clear h1 k1 e0 hm1
 go_wp2_with fail
 go_region_with (go_at_call 207;refine (expr_any _ _ m _ (by exact at_drew H1.out) Hok.out Hon.out (by exact Hm1.out) h0).mono ?_;rintro e w2 ⟨v2,rfl,r2,h2,k2⟩;have f2:=fun i=>cell_at (k2.at (at_drew E0.out) (by omega)) i;have H2:=hide h2;have K2:=hide k2;have R2:=hide r2;clear h2 k2 r2)
 all_goals
  go_wp2
  go_ret
  have k0:Kept rb w w1.drew:=(((Kept.refl rb w).alloc _).trans K1.out).drew
  have k3:=k0.trans K2.out
  refine⟨_,rfl,⟨w2.heap.size,v2,k3.size,Nat.le_refl _,by simp,at_new _ _,?_⟩,at_alloc H2.out _,k3.alloc _⟩
  exact (R2.out.widen k0.size (Nat.le_refl _)).frame (fun k a b=>Below.heap_alloc _ _ _ (by omega))
end Go.Proofs.YtnhidaamfnjdjaaGreatDoor
namespace Go.Proofs.YtnhidaamfnjdjaaGreatDoor
open Go.RowKit
set_option maxHeartbeats 400000 in
theorem source_any (rb:Nat) (σ:RS) (w:World) (h:AtR w rb σ) (ok:σ.Ok) :
  Calls Tryz.prog 246 #[.pointer (some ⟨rb,0,none⟩)] w fun e w'=>e=.returned (nm (sourceF σ).1)∧AtR w' rb (sourceF σ).2∧Kept rb w w':=by
 have H:=hide h
 have hlt:=lt_of_at h
 have hs:σ.rest.length≤maxLen:=Nat.le_trans ok.rest (by decide)
 clear h ok
 by_cases ht:σ.text=wIn
 ·have e1:sourceF σ=(wIn,σ.next):=by simp [sourceF,ht]
  rw [e1]
  have Ht:=hide ht
  clear ht e1
  go_enter Tryz.func246,Tryz.ntmps246
  go_wp2_with (go_at_call 229;refine (take_yes rb σ wIn _ (at_alloc H.out _) hs Ht.out).mono ?_;rintro e w' ⟨rfl,h1,k1⟩;have e0:=k1.at (at_new _ _) (by omega);have f0:=fun i=>cell_at e0 i;have g0:=fun i=>frozen_at e0 i;have H1:=hide h1;have K1:=hide k1;clear h1 k1 e0)
  refine bodyPost_ret (v:=nm wIn) (by simp [results,Tryz.results246,go_sem,f0,wIn]) rfl ⟨rfl,?_,?_⟩
  ·exact at_setCell_other (at_setCell_other H1.out (by omega) _ _) (by omega) _ _
  ·exact ((((Kept.refl _ _).alloc _).trans K1.out).setNew (Nat.le_refl _) _ _).setNew (Nat.le_refl _) _ _
 ·have e1:sourceF σ=σ.name:=by simp [sourceF,ht]
  rw [e1]
  have Ht:Hid (σ.text≠wIn):=ht
  clear ht e1
  go_enter Tryz.func246,Tryz.ntmps246
  go_wp2_with (first|(go_at_call 229;refine (take_no rb σ wIn _ (at_alloc H.out _) Ht.out).mono ?_;rintro e wx ⟨rfl,hw⟩;have hw:=hw.symm;subst hw)|(go_at_call 235;refine (name_any rb σ _ (at_alloc H.out _) hs).mono ?_;rintro e w' ⟨rfl,h1,k1⟩;have e0:=k1.at (at_new _ _) (by omega);have f0:=fun i=>cell_at e0 i;have g0:=fun i=>frozen_at e0 i;have H1:=hide h1;have K1:=hide k1;clear h1 k1 e0))
  refine bodyPost_ret (v:=nm σ.name.1) (by simp [results,Tryz.results246,go_sem,f0]) rfl ⟨rfl,?_,?_⟩
  ·exact at_setCell_other (at_setCell_other H1.out (by omega) _ _) (by omega) _ _
  ·exact ((((Kept.refl _ _).alloc _).trans K1.out).setNew (Nat.le_refl _) _ _).setNew (Nat.le_refl _) _ _
set_option maxHeartbeats 400000 in
theorem onName_any (rb:Nat) (σ:RS) (m:Int) (n:Bs) (w:World) (h:AtR w rb σ) (ok:σ.Ok) (ho:σ.opn=0) (hm:w.cell? ⟨0,0,none⟩=some (.int .i64 m)) (h0:rb≠0) :
  Calls Tryz.prog 237 #[.pointer (some ⟨rb,0,none⟩),nm n] w (ReadsP rb w (onNameF n σ)):=by
 have H:=hide h
 have hlt:=lt_of_at h
 have hs:σ.rest.length≤maxLen:=Nat.le_trans ok.rest (by decide)
 have Hok:=hide ok
 have Ho:=hide ho
 have Hm:=hide hm
 have c1:=h.c1
 clear h ok ho hm
 by_cases ht:σ.text=[58,61]
 ·have e1:onNameF n σ=(⟨3,n,[],(exprF 4 σ.next).1⟩,(exprF 4 σ.next).2):=by simp [onNameF,ht]
  rw [e1]
  have Ht:=hide ht
  clear ht e1 c1
  go_enter Tryz.func237,Tryz.ntmps237
  go_wp2_with fail
  refine (take_yes rb σ [58,61] _ (at_alloc H.out _) hs Ht.out).mono ?_
  rintro e w1 ⟨rfl,h1,k1⟩
  have e0:=k1.at (at_new _ _) (by omega)
  have f0:=fun i=>cell_at e0 i
  have hm1:w1.cell? ⟨0,0,none⟩=some (.int .i64 m):=(((Kept.refl rb w).alloc _).trans k1).cell Hm.out (Ne.symm h0)
  have Hm1:=hide hm1
  have H1:=hide h1;have K1:=hide k1;have E0:=hide e0
  clear h1 k1 e0 hm1
  go_wp2_with fail
  go_region_with (go_at_call 207;refine (expr_any _ _ m _ (by exact at_drew H1.out) Hok.out.next Ho.out (by exact Hm1.out) h0).mono ?_;rintro e w2 ⟨v2,rfl,r2,h2,k2⟩;have f2:=fun i=>cell_at (k2.at (at_drew E0.out) (by omega)) i;have H2:=hide h2;have K2:=hide k2;have R2:=hide r2;clear h2 k2 r2)
  all_goals
   go_wp2
   go_ret
   have k0:Kept rb w w1.drew:=(((Kept.refl rb w).alloc _).trans K1.out).drew
   have k3:=k0.trans K2.out
   refine⟨_,rfl,⟨w2.heap.size,v2,k3.size,Nat.le_refl _,by simp,at_new _ _,?_⟩,at_alloc H2.out _,k3.alloc _⟩
   exact (R2.out.widen k0.size (Nat.le_refl _)).frame (fun k a b=>Below.heap_alloc _ _ _ (by omega))
 ·have Ht:Hid (σ.text≠[58,61]):=ht
  by_cases h2:σ.text=[33]
  ·have e1:onNameF n σ=writeF n σ:=by simp [onNameF,h2]
   rw [e1]
   have h2':(σ.text == [33])=true:=by simp [h2]
   clear ht e1 h2
   go_enter Tryz.func237,Tryz.ntmps237
   go_wp2_with (first|(go_at_call 229;refine (take_no rb σ [58,61] _ (at_alloc H.out _) Ht.out).mono ?_;rintro e wx ⟨rfl,hw⟩;have hw:=hw.symm;subst hw)|(go_at_call 236;refine (write_any rb σ m n _ (at_alloc H.out _) Hok.out Ho.out (((Kept.refl rb w).alloc _).cell Hm.out (Ne.symm h0)) h0).mono ?_;rintro e w2 ⟨b2,rfl,r2,h2,k2⟩;have H2:=hide h2;have K2:=hide k2;have R2:=hide r2;clear h2 k2 r2))
   go_ret
   obtain⟨mid,ve,l1,l2,l3,hb,re⟩:=R2.out
   exact⟨_,rfl,⟨mid,ve,by simp at l1;omega,l2,l3,hb,re.widen (by simp) (Nat.le_refl _)⟩,H2.out,((Kept.refl rb w).alloc _).trans K2.out⟩
  ·have e1:onNameF n σ=readF 5 n σ:=by simp [onNameF,h2,ht]
   rw [e1]
   have h2':(σ.text == [33])=false:=by simp [h2]
   clear ht e1 h2
   go_enter Tryz.func237,Tryz.ntmps237
   go_wp2_with (first|(go_at_call 229;refine (take_no rb σ [58,61] _ (at_alloc H.out _) Ht.out).mono ?_;rintro e wx ⟨rfl,hw⟩;have hw:=hw.symm;subst hw)|(go_at_call 232;refine (read_any rb σ 5 n _ (at_alloc H.out _) Hok.out).mono ?_;rintro e w2 ⟨b2,rfl,r2,h2,k2⟩;have H2:=hide h2;have K2:=hide k2;have R2:=hide r2;clear h2 k2 r2))
   go_ret
   obtain⟨mid,ve,l1,l2,l3,hb,re⟩:=R2.out
   exact⟨_,rfl,⟨mid,ve,by simp at l1;omega,l2,l3,hb,re.widen (by simp) (Nat.le_refl _)⟩,H2.out,((Kept.refl rb w).alloc _).trans K2.out⟩
theorem RepP.widen {w:World} {p:LP} {line:Int} {lo hi lo':Nat} {b:Nat} (h:RepP w p line lo hi b) (hl:lo'≤lo):RepP w p line lo' hi b:=by
 obtain⟨mid,ve,l1,l2,l3,hb,re⟩:=h
 exact⟨mid,ve,by omega,l2,l3,hb,re.widen hl (Nat.le_refl _)⟩
set_option maxHeartbeats 400000 in
theorem guarded_any (rb:Nat) (σ:RS) (g:PE) (lo:Nat) (vl:Option Addr) (w:World) (h:AtR w rb σ) (ok:σ.Ok) (hl:RepE w g lo w.heap.size vl) (hlo:rb<lo) :
  Calls Tryz.prog 234 #[.pointer (some ⟨rb,0,none⟩),.pointer vl] w fun e w'=>∃ b,e=.returned (.pointer (some ⟨b,0,none⟩))∧RepP w' (guardedF g σ).1 0 lo w'.heap.size b∧AtR w' rb (guardedF g σ).2∧Kept rb w w':=by
 have H:=hide h
 have hlt:=lt_of_at h
 have hs:σ.rest.length≤maxLen:=Nat.le_trans ok.rest (by decide)
 have okn:=ok.need [38]
 have oks:=(sourceF_ok okn).1
 have Hokn:=hide okn
 have Hoks:=hide oks
 have Hl:=hide hl
 unfold guardedF
 dsimp only
 generalize hq:sourceF (σ.need [38])=q at oks Hoks ⊢
 have Hq:=hide hq
 clear h ok okn oks hl hq
 go_enter Tryz.func234,Tryz.ntmps234
 go_wp2_with fail
 refine (need_any rb σ [38] _ H.out hs).mono ?_
 rintro e w1 ⟨rfl,h1,k1⟩
 have H1:=hide h1;have K1:=hide k1
 clear h1 k1
 go_wp2_with fail
 refine (source_any rb _ _ H1.out Hokn.out).mono ?_
 rw [Hq.out]
 rintro e w2 ⟨rfl,h2,k2⟩
 have H2:=hide h2;have K2:=hide k2
 clear h2 k2
 go_wp2_with fail
 refine (read_any rb q.2 14 q.1 _ H2.out Hoks.out).mono ?_
 rintro e w3 ⟨b3,rfl,r3,h3,k3⟩
 obtain⟨mid,ve,l1,l2,l3,hb,re⟩:=r3
 have f3:=fun i=>cell_at hb i
 have g3:=fun i=>frozen_at hb i
 have H3:=hide h3;have K3:=hide k3;have Hb:=hide hb
 clear h3 k3 hb re
 go_wp2
 go_ret
 have k:=(K1.out.trans K2.out).trans K3.out
 have s12:=(K1.out.trans K2.out).size
 have hge:w.heap.size≤b3:=by omega
 refine⟨b3,rfl,⟨w.heap.size,vl,Hl.out.le,hge,by simpa [World.setCell] using l3,at_setCell Hb.out _ _,?_⟩,at_setCell_other H3.out (by omega) _ _,k.setNew hge _ _⟩
 exact (RepE.kept k Hl.out hlo (Nat.le_refl _)).frame (fun i a b=>Below.heap_setCell _ _ _ _ (by simp;omega))
end Go.Proofs.YtnhidaamfnjdjaaGreatDoor
namespace Go.Proofs.YtnhidaamfnjdjaaGreatDoor
open Go.RowKit
set_option maxHeartbeats 1000000 in
theorem branch_any (rb:Nat) (σ:RS) (m:Int) (w:World) (h:AtR w rb σ) (ok:σ.Ok) (ho:σ.opn=0) (hm:w.cell? ⟨0,0,none⟩=some (.int .i64 m)) (h0:rb≠0) :
  Calls Tryz.prog 208 #[.pointer (some ⟨rb,0,none⟩)] w (ReadsP rb w (branchF σ)):=by
 have H:=hide h
 have hlt:=lt_of_at h
 have hs:σ.rest.length≤maxLen:=Nat.le_trans ok.rest (by decide)
 have Hok:=hide ok
 have Ho:=hide ho
 have Hm:=hide hm
 by_cases ht:σ.text=wIn
 ·have e1:branchF σ=readF 14 wIn σ.next:=by simp [branchF,ht]
  rw [e1]
  have Ht:=hide ht
  clear ht e1 h ok ho hm
  go_enter Tryz.func208,Tryz.ntmps208
  go_wp2_with (first|(go_at_call 229;refine (take_yes rb σ wIn _ H.out hs Ht.out).mono ?_;rintro e w1 ⟨rfl,h1,k1⟩;have H1:=hide h1;have K1:=hide k1;clear h1 k1)|(go_at_call 232;refine (read_any rb σ.next 14 wIn _ H1.out Hok.out.next).mono ?_;rintro e w2 ⟨b2,rfl,r2,h2,k2⟩;have H2:=hide h2;have K2:=hide k2;have R2:=hide r2;clear h2 k2 r2))
  go_ret
  exact⟨_,rfl,R2.out.widen K1.out.size,H2.out,K1.out.trans K2.out⟩
 ·have Ht:Hid (σ.text≠wIn):=ht
  cases hk:σ.atName with
  | false =>
   have e1:branchF σ=guardedF (exprF 4 σ).1 (exprF 4 σ).2:=by simp [branchF,ht,hk]
   rw [e1]
   have Hoe:=hide (exprF_ok 4 σ ok).1
   have Hk:=hide hk
   clear ht e1 h ok ho hm hk
   go_enter Tryz.func208,Tryz.ntmps208
   go_wp2_with (first|(go_at_call 229;refine (take_no rb σ wIn _ H.out Ht.out).mono ?_;rintro e wx ⟨rfl,hw⟩;have hw:=hw.symm;subst hw)|(go_at_call 233;refine (atName_any rb σ _ H.out).mono ?_;rw [Hk.out];rintro e wx ⟨rfl,hw⟩;have hw:=hw.symm;subst hw)|(go_at_call 207;refine (expr_any rb σ m _ H.out Hok.out Ho.out Hm.out h0).mono ?_;rintro e w2 ⟨v2,rfl,r2,h2,k2⟩;have H2:=hide h2;have K2:=hide k2;have R2:=hide r2;clear h2 k2 r2)|(go_at_call 234;refine (guarded_any rb _ _ w.heap.size v2 _ H2.out Hoe.out R2.out hlt).mono ?_;rintro e w3 ⟨b3,rfl,r3,h3,k3⟩;have H3:=hide h3;have K3:=hide k3;have R3:=hide r3;clear h3 k3 r3))
   go_ret
   exact⟨_,rfl,R3.out,H3.out,K2.out.trans K3.out⟩
  | true =>
   have okn:=ok.name
   have hon:σ.name.2.opn=0:=(RS.name_opn σ).trans ho
   by_cases h2:σ.name.2.text=[63]
   ·have e1:branchF σ=readF 14 σ.name.1 σ.name.2:=by simp [branchF,ht,hk,h2]
    rw [e1]
    have h2':(σ.name.2.text == [63])=true:=by simp [h2]
    have Hk:=hide hk
    have Hokn:=hide okn
    generalize hq:σ.name=q at *
    have Hq:=hide hq
    clear ht e1 h ok ho hm hk h2 okn hon hq
    go_enter Tryz.func208,Tryz.ntmps208
    go_wp2_with (first|(go_at_call 229;refine (take_no rb σ wIn _ H.out Ht.out).mono ?_;rintro e wx ⟨rfl,hw⟩;have hw:=hw.symm;subst hw)|(go_at_call 233;refine (atName_any rb σ _ H.out).mono ?_;rw [Hk.out];rintro e wx ⟨rfl,hw⟩;have hw:=hw.symm;subst hw)|(go_at_call 235;refine (name_any rb σ _ H.out hs).mono ?_;rw [Hq.out];rintro e w2 ⟨rfl,h2,k2⟩;have d1:∀ o,(w2.alloc o).cell? ⟨rb,1,none⟩=some (.string ⟨q.2.text.toArray⟩):=fun o=>AtR.c1 (show AtR (w2.alloc o) rb q.2 from at_alloc h2 o);have H2:=hide h2;have K2:=hide k2;clear h2 k2)|(go_at_call 232;refine (read_any rb q.2 14 q.1 _ (at_alloc H2.out _) Hokn.out).mono ?_;rintro e w3 ⟨b3,rfl,r3,h3,k3⟩;have H3:=hide h3;have K3:=hide k3;have R3:=hide r3;clear h3 k3 r3))
    go_ret
    have k:=(K2.out.alloc _).trans K3.out
    exact⟨_,rfl,R3.out.widen (by have:=K2.out.size;simp;omega),H3.out,k⟩
   ·have e1:branchF σ=guardedF (fromF (operandF 4) (.var σ.name.1 0,σ.name.2)).1 (fromF (operandF 4) (.var σ.name.1 0,σ.name.2)).2:=by simp [branchF,ht,hk,h2]
    rw [e1]
    have h2':(σ.name.2.text == [63])=false:=by simp [h2]
    have Hk:=hide hk
    have Hokn:=hide okn
    have Hon:=hide hon
    have Hof:=hide (fromF_ok (operandF_ok 4) (p:=(.var σ.name.1 0,σ.name.2)) okn).1
    generalize hq:σ.name=q at *
    have Hq:=hide hq
    clear ht e1 h ok ho hm hk h2 okn hon hq
    go_enter Tryz.func208,Tryz.ntmps208
    go_wp2_with (first|(go_at_call 229;refine (take_no rb σ wIn _ H.out Ht.out).mono ?_;rintro e wx ⟨rfl,hw⟩;have hw:=hw.symm;subst hw)|(go_at_call 233;refine (atName_any rb σ _ H.out).mono ?_;rw [Hk.out];rintro e wx ⟨rfl,hw⟩;have hw:=hw.symm;subst hw)|(go_at_call 235;refine (name_any rb σ _ H.out hs).mono ?_;rw [Hq.out];rintro e w2 ⟨rfl,h2,k2⟩;have d1:∀ o,(w2.alloc o).cell? ⟨rb,1,none⟩=some (.string ⟨q.2.text.toArray⟩):=fun o=>AtR.c1 (show AtR (w2.alloc o) rb q.2 from at_alloc h2 o);have H2:=hide h2;have K2:=hide k2;clear h2 k2))
    have s2:=K2.out.size
    refine (exprFrom_4 rb q.2 m (.var q.1 0) w.heap.size (some ⟨w2.heap.size+1,0,none⟩) _ (at_alloc (at_alloc H2.out _) _) Hokn.out Hon.out (((K2.out.alloc _).alloc _).cell Hm.out (Ne.symm h0)) h0 ⟨w2.heap.size+1,by omega,by simp,rfl,by have:=at_new (w2.alloc (.cells #[.string ⟨q.1.toArray⟩,.int .i64 0] 111)) (.cells #[.int .i64 1,.int .i64 0,.string ⟨q.1.toArray⟩,.int .i64 0,.int .u8 0,.pointer none,.pointer none] 236);simpa using this⟩ hlt).mono ?_
    rintro e w3 ⟨v3,rfl,r3,h3,k3⟩
    have k:=((K2.out.alloc _).alloc _).trans k3
    have H3:=hide h3;have K3:=hide k;have R3:=hide r3
    clear h3 k3 r3 k
    go_wp2_with (go_at_call 234;refine (guarded_any rb _ _ w.heap.size v3 _ H3.out Hof.out R3.out hlt).mono ?_;rintro e w4 ⟨b4,rfl,r4,h4,k4⟩;have H4:=hide h4;have K4:=hide k4;have R4:=hide r4;clear h4 k4 r4)
    go_ret
    exact⟨_,rfl,R4.out,H4.out,K3.out.trans K4.out⟩
end Go.Proofs.YtnhidaamfnjdjaaGreatDoor
namespace Go.Proofs.YtnhidaamfnjdjaaGreatDoor
open Go.RowKit
set_option maxHeartbeats 2000000 in
theorem process_wSkip (rb:Nat) (σ:RS) (m:Int) (w:World) (h:AtR w rb σ) (ok:σ.Ok) (ho:σ.opn=0) (hm:w.cell? ⟨0,0,none⟩=some (.int .i64 m)) (h0:rb≠0) (ht:σ.text=wSkip) :
  Calls Tryz.prog 209 #[.pointer (some ⟨rb,0,none⟩)] w (ReadsP rb w (bareF 1 σ)):=by
 have H:=hide h
 have hs:σ.rest.length≤maxLen:=Nat.le_trans ok.rest (by decide)
 have Hok:=hide ok
 have Ho:=hide ho
 have Hm:=hide hm
 have Ht:=hide ht
 clear h ok ho hm ht
 go_enter Tryz.func209,Tryz.ntmps209
 go_wp2_with (first|(go_at_call 229;first|(refine (take_no rb σ _ _ H.out ?ne).mono ?_;(case ne=>rw [Ht.out];decide +kernel);rintro e wx ⟨rfl,hw⟩;have hw:=hw.symm;subst hw)|(refine (take_yes rb σ wSkip _ H.out hs Ht.out).mono ?_;rintro e w1 ⟨rfl,h1,k1⟩;have hm1:=k1.cell Hm.out (Ne.symm h0);have Hm1:=hide hm1;have H1:=hide h1;have K1:=hide k1;clear h1 k1 hm1)))
 go_ret
 exact⟨_,rfl,⟨w.heap.size,none,Nat.le_refl _,K1.out.size,by simp,at_new _ _,Nat.le_refl _,rfl⟩,at_alloc H1.out _,K1.out.alloc _⟩
set_option maxHeartbeats 2000000 in
theorem process_wStop (rb:Nat) (σ:RS) (m:Int) (w:World) (h:AtR w rb σ) (ok:σ.Ok) (ho:σ.opn=0) (hm:w.cell? ⟨0,0,none⟩=some (.int .i64 m)) (h0:rb≠0) (ht:σ.text=wStop) :
  Calls Tryz.prog 209 #[.pointer (some ⟨rb,0,none⟩)] w (ReadsP rb w (bareF 2 σ)):=by
 have H:=hide h
 have hs:σ.rest.length≤maxLen:=Nat.le_trans ok.rest (by decide)
 have Hok:=hide ok
 have Ho:=hide ho
 have Hm:=hide hm
 have Ht:=hide ht
 clear h ok ho hm ht
 go_enter Tryz.func209,Tryz.ntmps209
 go_wp2_with (first|(go_at_call 229;first|(refine (take_no rb σ _ _ H.out ?ne).mono ?_;(case ne=>rw [Ht.out];decide +kernel);rintro e wx ⟨rfl,hw⟩;have hw:=hw.symm;subst hw)|(refine (take_yes rb σ wStop _ H.out hs Ht.out).mono ?_;rintro e w1 ⟨rfl,h1,k1⟩;have hm1:=k1.cell Hm.out (Ne.symm h0);have Hm1:=hide hm1;have H1:=hide h1;have K1:=hide k1;clear h1 k1 hm1)))
 go_ret
 exact⟨_,rfl,⟨w.heap.size,none,Nat.le_refl _,K1.out.size,by simp,at_new _ _,Nat.le_refl _,rfl⟩,at_alloc H1.out _,K1.out.alloc _⟩
set_option maxHeartbeats 2000000 in
theorem process_wSeq (rb:Nat) (σ:RS) (m:Int) (w:World) (h:AtR w rb σ) (ok:σ.Ok) (ho:σ.opn=0) (hm:w.cell? ⟨0,0,none⟩=some (.int .i64 m)) (h0:rb≠0) (ht:σ.text=wSeq) :
  Calls Tryz.prog 209 #[.pointer (some ⟨rb,0,none⟩)] w (ReadsP rb w (bareF 7 σ)):=by
 have H:=hide h
 have hs:σ.rest.length≤maxLen:=Nat.le_trans ok.rest (by decide)
 have Hok:=hide ok
 have Ho:=hide ho
 have Hm:=hide hm
 have Ht:=hide ht
 clear h ok ho hm ht
 go_enter Tryz.func209,Tryz.ntmps209
 go_wp2_with (first|(go_at_call 229;first|(refine (take_no rb σ _ _ H.out ?ne).mono ?_;(case ne=>rw [Ht.out];decide +kernel);rintro e wx ⟨rfl,hw⟩;have hw:=hw.symm;subst hw)|(refine (take_yes rb σ wSeq _ H.out hs Ht.out).mono ?_;rintro e w1 ⟨rfl,h1,k1⟩;have hm1:=k1.cell Hm.out (Ne.symm h0);have Hm1:=hide hm1;have H1:=hide h1;have K1:=hide k1;clear h1 k1 hm1)))
 go_ret
 exact⟨_,rfl,⟨w.heap.size,none,Nat.le_refl _,K1.out.size,by simp,at_new _ _,Nat.le_refl _,rfl⟩,at_alloc H1.out _,K1.out.alloc _⟩
set_option maxHeartbeats 2000000 in
theorem process_wPar (rb:Nat) (σ:RS) (m:Int) (w:World) (h:AtR w rb σ) (ok:σ.Ok) (ho:σ.opn=0) (hm:w.cell? ⟨0,0,none⟩=some (.int .i64 m)) (h0:rb≠0) (ht:σ.text=wPar) :
  Calls Tryz.prog 209 #[.pointer (some ⟨rb,0,none⟩)] w (ReadsP rb w (bareF 8 σ)):=by
 have H:=hide h
 have hs:σ.rest.length≤maxLen:=Nat.le_trans ok.rest (by decide)
 have Hok:=hide ok
 have Ho:=hide ho
 have Hm:=hide hm
 have Ht:=hide ht
 clear h ok ho hm ht
 go_enter Tryz.func209,Tryz.ntmps209
 go_wp2_with (first|(go_at_call 229;first|(refine (take_no rb σ _ _ H.out ?ne).mono ?_;(case ne=>rw [Ht.out];decide +kernel);rintro e wx ⟨rfl,hw⟩;have hw:=hw.symm;subst hw)|(refine (take_yes rb σ wPar _ H.out hs Ht.out).mono ?_;rintro e w1 ⟨rfl,h1,k1⟩;have hm1:=k1.cell Hm.out (Ne.symm h0);have Hm1:=hide hm1;have H1:=hide h1;have K1:=hide k1;clear h1 k1 hm1)))
 go_ret
 exact⟨_,rfl,⟨w.heap.size,none,Nat.le_refl _,K1.out.size,by simp,at_new _ _,Nat.le_refl _,rfl⟩,at_alloc H1.out _,K1.out.alloc _⟩
set_option maxHeartbeats 2000000 in
theorem process_wPri (rb:Nat) (σ:RS) (m:Int) (w:World) (h:AtR w rb σ) (ok:σ.Ok) (ho:σ.opn=0) (hm:w.cell? ⟨0,0,none⟩=some (.int .i64 m)) (h0:rb≠0) (ht:σ.text=wPri) :
  Calls Tryz.prog 209 #[.pointer (some ⟨rb,0,none⟩)] w (ReadsP rb w (bareF 9 σ)):=by
 have H:=hide h
 have hs:σ.rest.length≤maxLen:=Nat.le_trans ok.rest (by decide)
 have Hok:=hide ok
 have Ho:=hide ho
 have Hm:=hide hm
 have Ht:=hide ht
 clear h ok ho hm ht
 go_enter Tryz.func209,Tryz.ntmps209
 go_wp2_with (first|(go_at_call 229;first|(refine (take_no rb σ _ _ H.out ?ne).mono ?_;(case ne=>rw [Ht.out];decide +kernel);rintro e wx ⟨rfl,hw⟩;have hw:=hw.symm;subst hw)|(refine (take_yes rb σ wPri _ H.out hs Ht.out).mono ?_;rintro e w1 ⟨rfl,h1,k1⟩;have hm1:=k1.cell Hm.out (Ne.symm h0);have Hm1:=hide hm1;have H1:=hide h1;have K1:=hide k1;clear h1 k1 hm1)))
 go_ret
 exact⟨_,rfl,⟨w.heap.size,none,Nat.le_refl _,K1.out.size,by simp,at_new _ _,Nat.le_refl _,rfl⟩,at_alloc H1.out _,K1.out.alloc _⟩
set_option maxHeartbeats 2000000 in
theorem process_wIf (rb:Nat) (σ:RS) (m:Int) (w:World) (h:AtR w rb σ) (ok:σ.Ok) (ho:σ.opn=0) (hm:w.cell? ⟨0,0,none⟩=some (.int .i64 m)) (h0:rb≠0) (ht:σ.text=wIf) :
  Calls Tryz.prog 209 #[.pointer (some ⟨rb,0,none⟩)] w (ReadsP rb w (bareF 11 σ)):=by
 have H:=hide h
 have hs:σ.rest.length≤maxLen:=Nat.le_trans ok.rest (by decide)
 have Hok:=hide ok
 have Ho:=hide ho
 have Hm:=hide hm
 have Ht:=hide ht
 clear h ok ho hm ht
 go_enter Tryz.func209,Tryz.ntmps209
 go_wp2_with (first|(go_at_call 229;first|(refine (take_no rb σ _ _ H.out ?ne).mono ?_;(case ne=>rw [Ht.out];decide +kernel);rintro e wx ⟨rfl,hw⟩;have hw:=hw.symm;subst hw)|(refine (take_yes rb σ wIf _ H.out hs Ht.out).mono ?_;rintro e w1 ⟨rfl,h1,k1⟩;have hm1:=k1.cell Hm.out (Ne.symm h0);have Hm1:=hide hm1;have H1:=hide h1;have K1:=hide k1;clear h1 k1 hm1)))
 go_ret
 exact⟨_,rfl,⟨w.heap.size,none,Nat.le_refl _,K1.out.size,by simp,at_new _ _,Nat.le_refl _,rfl⟩,at_alloc H1.out _,K1.out.alloc _⟩
set_option maxHeartbeats 2000000 in
theorem process_wAlt (rb:Nat) (σ:RS) (m:Int) (w:World) (h:AtR w rb σ) (ok:σ.Ok) (ho:σ.opn=0) (hm:w.cell? ⟨0,0,none⟩=some (.int .i64 m)) (h0:rb≠0) (ht:σ.text=wAlt) :
  Calls Tryz.prog 209 #[.pointer (some ⟨rb,0,none⟩)] w (ReadsP rb w (bareF 13 σ)):=by
 have H:=hide h
 have hs:σ.rest.length≤maxLen:=Nat.le_trans ok.rest (by decide)
 have Hok:=hide ok
 have Ho:=hide ho
 have Hm:=hide hm
 have Ht:=hide ht
 clear h ok ho hm ht
 go_enter Tryz.func209,Tryz.ntmps209
 go_wp2_with (first|(go_at_call 229;first|(refine (take_no rb σ _ _ H.out ?ne).mono ?_;(case ne=>rw [Ht.out];decide +kernel);rintro e wx ⟨rfl,hw⟩;have hw:=hw.symm;subst hw)|(refine (take_yes rb σ wAlt _ H.out hs Ht.out).mono ?_;rintro e w1 ⟨rfl,h1,k1⟩;have hm1:=k1.cell Hm.out (Ne.symm h0);have Hm1:=hide hm1;have H1:=hide h1;have K1:=hide k1;clear h1 k1 hm1)))
 go_ret
 exact⟨_,rfl,⟨w.heap.size,none,Nat.le_refl _,K1.out.size,by simp,at_new _ _,Nat.le_refl _,rfl⟩,at_alloc H1.out _,K1.out.alloc _⟩
set_option maxHeartbeats 2000000 in
theorem process_wWait (rb:Nat) (σ:RS) (m:Int) (w:World) (h:AtR w rb σ) (ok:σ.Ok) (ho:σ.opn=0) (hm:w.cell? ⟨0,0,none⟩=some (.int .i64 m)) (h0:rb≠0) (ht:σ.text=wWait) :
  Calls Tryz.prog 209 #[.pointer (some ⟨rb,0,none⟩)] w (ReadsP rb w (askF 6 σ)):=by
 have H:=hide h
 have hs:σ.rest.length≤maxLen:=Nat.le_trans ok.rest (by decide)
 have Hok:=hide ok
 have Ho:=hide ho
 have Hm:=hide hm
 have Ht:=hide ht
 clear h ok ho hm ht
 go_enter Tryz.func209,Tryz.ntmps209
 go_wp2_with (first|(go_at_call 229;first|(refine (take_no rb σ _ _ H.out ?ne).mono ?_;(case ne=>rw [Ht.out];decide +kernel);rintro e wx ⟨rfl,hw⟩;have hw:=hw.symm;subst hw)|(refine (take_yes rb σ wWait _ H.out hs Ht.out).mono ?_;rintro e w1 ⟨rfl,h1,k1⟩;have hm1:=k1.cell Hm.out (Ne.symm h0);have Hm1:=hide hm1;have H1:=hide h1;have K1:=hide k1;clear h1 k1 hm1))|(go_at_call 207;refine (expr_any rb σ.next m _ H1.out Hok.out.next Ho.out Hm1.out h0).mono ?_;rintro e w2 ⟨v2,rfl,r2,h2,k2⟩;have H2:=hide h2;have K2:=hide k2;have R2:=hide r2;clear h2 k2 r2))
 go_ret
 have k3:=K1.out.trans K2.out
 refine⟨_,rfl,⟨w2.heap.size,v2,k3.size,Nat.le_refl _,by simp,at_new _ _,?_⟩,at_alloc H2.out _,k3.alloc _⟩
 exact (R2.out.widen K1.out.size (Nat.le_refl _)).frame (fun k a b=>Below.heap_alloc _ _ _ (by omega))
set_option maxHeartbeats 2000000 in
theorem process_wWhile (rb:Nat) (σ:RS) (m:Int) (w:World) (h:AtR w rb σ) (ok:σ.Ok) (ho:σ.opn=0) (hm:w.cell? ⟨0,0,none⟩=some (.int .i64 m)) (h0:rb≠0) (ht:σ.text=wWhile) :
  Calls Tryz.prog 209 #[.pointer (some ⟨rb,0,none⟩)] w (ReadsP rb w (askF 10 σ)):=by
 have H:=hide h
 have hs:σ.rest.length≤maxLen:=Nat.le_trans ok.rest (by decide)
 have Hok:=hide ok
 have Ho:=hide ho
 have Hm:=hide hm
 have Ht:=hide ht
 clear h ok ho hm ht
 go_enter Tryz.func209,Tryz.ntmps209
 go_wp2_with (first|(go_at_call 229;first|(refine (take_no rb σ _ _ H.out ?ne).mono ?_;(case ne=>rw [Ht.out];decide +kernel);rintro e wx ⟨rfl,hw⟩;have hw:=hw.symm;subst hw)|(refine (take_yes rb σ wWhile _ H.out hs Ht.out).mono ?_;rintro e w1 ⟨rfl,h1,k1⟩;have hm1:=k1.cell Hm.out (Ne.symm h0);have Hm1:=hide hm1;have H1:=hide h1;have K1:=hide k1;clear h1 k1 hm1))|(go_at_call 207;refine (expr_any rb σ.next m _ H1.out Hok.out.next Ho.out Hm1.out h0).mono ?_;rintro e w2 ⟨v2,rfl,r2,h2,k2⟩;have H2:=hide h2;have K2:=hide k2;have R2:=hide r2;clear h2 k2 r2))
 go_ret
 have k3:=K1.out.trans K2.out
 refine⟨_,rfl,⟨w2.heap.size,v2,k3.size,Nat.le_refl _,by simp,at_new _ _,?_⟩,at_alloc H2.out _,k3.alloc _⟩
 exact (R2.out.widen K1.out.size (Nat.le_refl _)).frame (fun k a b=>Below.heap_alloc _ _ _ (by omega))
set_option maxHeartbeats 2000000 in
theorem process_wVar (rb:Nat) (σ:RS) (m:Int) (w:World) (h:AtR w rb σ) (ok:σ.Ok) (ho:σ.opn=0) (hm:w.cell? ⟨0,0,none⟩=some (.int .i64 m)) (h0:rb≠0) (ht:σ.text=wVar) :
  Calls Tryz.prog 209 #[.pointer (some ⟨rb,0,none⟩)] w (ReadsP rb w (declF 15 σ)):=by
 have H:=hide h
 have hs:σ.rest.length≤maxLen:=Nat.le_trans ok.rest (by decide)
 have Hok:=hide ok
 have Ho:=hide ho
 have Hm:=hide hm
 have Ht:=hide ht
 clear h ok ho hm ht
 go_enter Tryz.func209,Tryz.ntmps209
 go_wp2_with (first|(go_at_call 229;first|(refine (take_no rb σ _ _ H.out ?ne).mono ?_;(case ne=>rw [Ht.out];decide +kernel);rintro e wx ⟨rfl,hw⟩;have hw:=hw.symm;subst hw)|(refine (take_yes rb σ wVar _ H.out hs Ht.out).mono ?_;rintro e w1 ⟨rfl,h1,k1⟩;have hm1:=k1.cell Hm.out (Ne.symm h0);have Hm1:=hide hm1;have H1:=hide h1;have K1:=hide k1;clear h1 k1 hm1))|(go_at_call 235;refine (name_any rb σ.next _ H1.out (Nat.le_trans Hok.out.next.rest (by decide))).mono ?_;rintro e w2 ⟨rfl,h2,k2⟩;have H2:=hide h2;have K2:=hide k2;clear h2 k2))
 go_ret
 have k3:=K1.out.trans K2.out
 exact⟨_,rfl,⟨w.heap.size,none,Nat.le_refl _,k3.size,by simp,at_new _ _,Nat.le_refl _,rfl⟩,at_alloc H2.out _,k3.alloc _⟩
set_option maxHeartbeats 2000000 in
theorem process_wChan (rb:Nat) (σ:RS) (m:Int) (w:World) (h:AtR w rb σ) (ok:σ.Ok) (ho:σ.opn=0) (hm:w.cell? ⟨0,0,none⟩=some (.int .i64 m)) (h0:rb≠0) (ht:σ.text=wChan) :
  Calls Tryz.prog 209 #[.pointer (some ⟨rb,0,none⟩)] w (ReadsP rb w (declF 16 σ)):=by
 have H:=hide h
 have hs:σ.rest.length≤maxLen:=Nat.le_trans ok.rest (by decide)
 have Hok:=hide ok
 have Ho:=hide ho
 have Hm:=hide hm
 have Ht:=hide ht
 clear h ok ho hm ht
 go_enter Tryz.func209,Tryz.ntmps209
 go_wp2_with (first|(go_at_call 229;first|(refine (take_no rb σ _ _ H.out ?ne).mono ?_;(case ne=>rw [Ht.out];decide +kernel);rintro e wx ⟨rfl,hw⟩;have hw:=hw.symm;subst hw)|(refine (take_yes rb σ wChan _ H.out hs Ht.out).mono ?_;rintro e w1 ⟨rfl,h1,k1⟩;have hm1:=k1.cell Hm.out (Ne.symm h0);have Hm1:=hide hm1;have H1:=hide h1;have K1:=hide k1;clear h1 k1 hm1))|(go_at_call 235;refine (name_any rb σ.next _ H1.out (Nat.le_trans Hok.out.next.rest (by decide))).mono ?_;rintro e w2 ⟨rfl,h2,k2⟩;have H2:=hide h2;have K2:=hide k2;clear h2 k2))
 go_ret
 have k3:=K1.out.trans K2.out
 exact⟨_,rfl,⟨w.heap.size,none,Nat.le_refl _,k3.size,by simp,at_new _ _,Nat.le_refl _,rfl⟩,at_alloc H2.out _,k3.alloc _⟩
set_option maxHeartbeats 2000000 in
theorem process_wIn (rb:Nat) (σ:RS) (m:Int) (w:World) (h:AtR w rb σ) (ok:σ.Ok) (ho:σ.opn=0) (hm:w.cell? ⟨0,0,none⟩=some (.int .i64 m)) (h0:rb≠0) (ht:σ.text=wIn) :
  Calls Tryz.prog 209 #[.pointer (some ⟨rb,0,none⟩)] w (ReadsP rb w (readF 5 wIn σ.next)):=by
 have H:=hide h
 have hs:σ.rest.length≤maxLen:=Nat.le_trans ok.rest (by decide)
 have Hok:=hide ok
 have Ho:=hide ho
 have Hm:=hide hm
 have Ht:=hide ht
 clear h ok ho hm ht
 go_enter Tryz.func209,Tryz.ntmps209
 go_wp2_with (first|(go_at_call 229;first|(refine (take_no rb σ _ _ H.out ?ne).mono ?_;(case ne=>rw [Ht.out];decide +kernel);rintro e wx ⟨rfl,hw⟩;have hw:=hw.symm;subst hw)|(refine (take_yes rb σ wIn _ H.out hs Ht.out).mono ?_;rintro e w1 ⟨rfl,h1,k1⟩;have hm1:=k1.cell Hm.out (Ne.symm h0);have Hm1:=hide hm1;have H1:=hide h1;have K1:=hide k1;clear h1 k1 hm1))|(go_at_call 232;refine (read_any rb σ.next 5 wIn _ H1.out Hok.out.next).mono ?_;rintro e w2 ⟨b2,rfl,r2,h2,k2⟩;have H2:=hide h2;have K2:=hide k2;have R2:=hide r2;clear h2 k2 r2))
 go_ret
 exact⟨_,rfl,R2.out.widen K1.out.size,H2.out,K1.out.trans K2.out⟩
set_option maxHeartbeats 2000000 in
theorem process_wOut (rb:Nat) (σ:RS) (m:Int) (w:World) (h:AtR w rb σ) (ok:σ.Ok) (ho:σ.opn=0) (hm:w.cell? ⟨0,0,none⟩=some (.int .i64 m)) (h0:rb≠0) (ht:σ.text=wOut) :
  Calls Tryz.prog 209 #[.pointer (some ⟨rb,0,none⟩)] w (ReadsP rb w (writeF wOut σ.next)):=by
 have H:=hide h
 have hs:σ.rest.length≤maxLen:=Nat.le_trans ok.rest (by decide)
 have Hok:=hide ok
 have Ho:=hide ho
 have Hm:=hide hm
 have Ht:=hide ht
 clear h ok ho hm ht
 go_enter Tryz.func209,Tryz.ntmps209
 go_wp2_with (first|(go_at_call 229;first|(refine (take_no rb σ _ _ H.out ?ne).mono ?_;(case ne=>rw [Ht.out];decide +kernel);rintro e wx ⟨rfl,hw⟩;have hw:=hw.symm;subst hw)|(refine (take_yes rb σ wOut _ H.out hs Ht.out).mono ?_;rintro e w1 ⟨rfl,h1,k1⟩;have hm1:=k1.cell Hm.out (Ne.symm h0);have Hm1:=hide hm1;have H1:=hide h1;have K1:=hide k1;clear h1 k1 hm1))|(go_at_call 236;refine (write_any rb σ.next m wOut _ H1.out Hok.out.next Ho.out Hm1.out h0).mono ?_;rintro e w2 ⟨b2,rfl,r2,h2,k2⟩;have H2:=hide h2;have K2:=hide k2;have R2:=hide r2;clear h2 k2 r2))
 go_ret
 exact⟨_,rfl,R2.out.widen K1.out.size,H2.out,K1.out.trans K2.out⟩
set_option maxHeartbeats 2000000 in
theorem process_else (rb:Nat) (σ:RS) (m:Int) (w:World) (h:AtR w rb σ) (ok:σ.Ok) (ho:σ.opn=0) (hm:w.cell? ⟨0,0,none⟩=some (.int .i64 m)) (h0:rb≠0) (ht:σ.text∉[wSkip,wStop,wSeq,wPar,wPri,wIf,wAlt,wWait,wWhile,wVar,wChan,wIn,wOut]) :
  Calls Tryz.prog 209 #[.pointer (some ⟨rb,0,none⟩)] w (ReadsP rb w (onNameF σ.name.1 σ.name.2)):=by
 have H:=hide h
 have hs:σ.rest.length≤maxLen:=Nat.le_trans ok.rest (by decide)
 have Hokn:=hide ok.name
 have Hon:Hid (σ.name.2.opn=0):=(RS.name_opn σ).trans ho
 have Hm:=hide hm
 have Ht:Hid (σ.text∉[wSkip,wStop,wSeq,wPar,wPri,wIf,wAlt,wWait,wWhile,wVar,wChan,wIn,wOut]):=ht
 clear h ok ho hm ht
 go_enter Tryz.func209,Tryz.ntmps209
 go_wp2_with (first|(go_at_call 229;refine (take_no rb σ _ _ H.out ?ne).mono ?_;(case ne=>intro hh;apply Ht.out;rw [hh];decide +kernel);rintro e wx ⟨rfl,hw⟩;have hw:=hw.symm;subst hw)|(go_at_call 235;refine (name_any rb σ _ H.out hs).mono ?_;rintro e w1 ⟨rfl,h1,k1⟩;have hm1:=k1.cell Hm.out (Ne.symm h0);have Hm1:=hide hm1;have H1:=hide h1;have K1:=hide k1;clear h1 k1 hm1)|(go_at_call 237;refine (onName_any rb _ m _ _ H1.out Hokn.out Hon.out Hm1.out h0).mono ?_;rintro e w2 ⟨b2,rfl,r2,h2,k2⟩;have H2:=hide h2;have K2:=hide k2;have R2:=hide r2;clear h2 k2 r2))
 go_ret
 exact⟨_,rfl,R2.out.widen K1.out.size,H2.out,K1.out.trans K2.out⟩
theorem process_any (rb:Nat) (σ:RS) (m:Int) (w:World) (h:AtR w rb σ) (ok:σ.Ok) (ho:σ.opn=0) (hm:w.cell? ⟨0,0,none⟩=some (.int .i64 m)) (h0:rb≠0) :
  Calls Tryz.prog 209 #[.pointer (some ⟨rb,0,none⟩)] w (ReadsP rb w (processF σ)):=by
 unfold processF
 by_cases h1:σ.text=wSkip
 ·rw [if_pos h1];exact process_wSkip rb σ m w h ok ho hm h0 h1
 rw [if_neg h1]
 by_cases h2:σ.text=wStop
 ·rw [if_pos h2];exact process_wStop rb σ m w h ok ho hm h0 h2
 rw [if_neg h2]
 by_cases h3:σ.text=wSeq
 ·rw [if_pos h3];exact process_wSeq rb σ m w h ok ho hm h0 h3
 rw [if_neg h3]
 by_cases h4:σ.text=wPar
 ·rw [if_pos h4];exact process_wPar rb σ m w h ok ho hm h0 h4
 rw [if_neg h4]
 by_cases h5:σ.text=wPri
 ·rw [if_pos h5];exact process_wPri rb σ m w h ok ho hm h0 h5
 rw [if_neg h5]
 by_cases h6:σ.text=wIf
 ·rw [if_pos h6];exact process_wIf rb σ m w h ok ho hm h0 h6
 rw [if_neg h6]
 by_cases h7:σ.text=wAlt
 ·rw [if_pos h7];exact process_wAlt rb σ m w h ok ho hm h0 h7
 rw [if_neg h7]
 by_cases h8:σ.text=wWait
 ·rw [if_pos h8];exact process_wWait rb σ m w h ok ho hm h0 h8
 rw [if_neg h8]
 by_cases h9:σ.text=wWhile
 ·rw [if_pos h9];exact process_wWhile rb σ m w h ok ho hm h0 h9
 rw [if_neg h9]
 by_cases h10:σ.text=wVar
 ·rw [if_pos h10];exact process_wVar rb σ m w h ok ho hm h0 h10
 rw [if_neg h10]
 by_cases h11:σ.text=wChan
 ·rw [if_pos h11];exact process_wChan rb σ m w h ok ho hm h0 h11
 rw [if_neg h11]
 by_cases h12:σ.text=wIn
 ·rw [if_pos h12];exact process_wIn rb σ m w h ok ho hm h0 h12
 rw [if_neg h12]
 by_cases h13:σ.text=wOut
 ·rw [if_pos h13];exact process_wOut rb σ m w h ok ho hm h0 h13
 rw [if_neg h13]
 exact process_else rb σ m w h ok ho hm h0 (by simp only [List.mem_cons,List.not_mem_nil,or_false,not_or];exact⟨h1,h2,h3,h4,h5,h6,h7,h8,h9,h10,h11,h12,h13⟩)
end Go.Proofs.YtnhidaamfnjdjaaGreatDoor
namespace Go.Proofs.YtnhidaamfnjdjaaGreatDoor
open Go.RowKit
set_option maxHeartbeats 1000000 in
theorem line_any (rb:Nat) (σ:RS) (m above:Int) (w:World) (h:AtR w rb σ) (ok:σ.Ok) (ho:σ.opn=0) (hm:w.cell? ⟨0,0,none⟩=some (.int .i64 m)) (h0:rb≠0) :
  Calls Tryz.prog 178 #[.pointer (some ⟨rb,0,none⟩),.int .i64 above] w (ReadsP rb w (lineF above σ)):=by
 have H:=hide h
 have hs:σ.rest.length≤maxLen:=Nat.le_trans ok.rest (by decide)
 have Hok:=hide ok
 have Ho:=hide ho
 have Hm:=hide hm
 clear h ok ho hm
 by_cases h1:above=11
 ·have e1:lineF above σ=(⟨12,[],[],(exprF 4 (σ.need wWhen)).1⟩,(exprF 4 (σ.need wWhen)).2):=by simp [lineF,h1]
  rw [e1]
  have h1':(above == 11)=true:=by simp [h1]
  clear h1 e1
  go_enter Tryz.func178,Tryz.ntmps178
  go_wp2_with (first|(go_at_call 206;refine (need_any rb σ wWhen _ H.out hs).mono ?_;rintro e w1 ⟨rfl,h1,k1⟩;have hm1:=k1.cell Hm.out (Ne.symm h0);have Hm1:=hide hm1;have H1:=hide h1;have K1:=hide k1;clear h1 k1 hm1)|(go_at_call 207;refine (expr_any rb _ m _ H1.out (Hok.out.need _) ((RS.need_opn _ _).trans Ho.out) Hm1.out h0).mono ?_;rintro e w2 ⟨v2,rfl,r2,h2,k2⟩;have H2:=hide h2;have K2:=hide k2;have R2:=hide r2;clear h2 k2 r2))
  go_ret
  have k3:=K1.out.trans K2.out
  refine⟨_,rfl,⟨w2.heap.size,v2,k3.size,Nat.le_refl _,by simp,at_new _ _,?_⟩,at_alloc H2.out _,k3.alloc _⟩
  exact (R2.out.widen K1.out.size (Nat.le_refl _)).frame (fun k a b=>Below.heap_alloc _ _ _ (by omega))
 ·have h1':(above == 11)=false:=by simp [h1]
  by_cases h2:above=13
  ·have e1:lineF above σ=branchF (σ.need wOn):=by simp [lineF,h2]
   rw [e1]
   have h2':(above == 13)=true:=by simp [h2]
   clear h1 h2 e1
   go_enter Tryz.func178,Tryz.ntmps178
   go_wp2_with (first|(go_at_call 206;refine (need_any rb σ wOn _ H.out hs).mono ?_;rintro e w1 ⟨rfl,h1,k1⟩;have hm1:=k1.cell Hm.out (Ne.symm h0);have Hm1:=hide hm1;have H1:=hide h1;have K1:=hide k1;clear h1 k1 hm1)|(go_at_call 208;refine (branch_any rb _ m _ H1.out (Hok.out.need _) ((RS.need_opn _ _).trans Ho.out) Hm1.out h0).mono ?_;rintro e w2 ⟨b2,rfl,r2,h2,k2⟩;have H2:=hide h2;have K2:=hide k2;have R2:=hide r2;clear h2 k2 r2))
   go_ret
   exact⟨_,rfl,R2.out.widen K1.out.size,H2.out,K1.out.trans K2.out⟩
  ·have e1:lineF above σ=processF σ:=by simp [lineF,h1,h2]
   rw [e1]
   have h2':(above == 13)=false:=by simp [h2]
   clear h1 h2 e1
   go_enter Tryz.func178,Tryz.ntmps178
   go_wp2_with (go_at_call 209;refine (process_any rb _ m _ H.out Hok.out Ho.out Hm.out h0).mono ?_;rintro e w2 ⟨b2,rfl,r2,h2,k2⟩;have H2:=hide h2;have K2:=hide k2;have R2:=hide r2;clear h2 k2 r2)
   go_ret
   exact⟨_,rfl,R2.out,H2.out,K2.out⟩
theorem Kept.toBelow {b:Nat} {w w':World} (h:Kept b w w') (hb:w.heap.size≤b):Below w.heap.size w w' :=
 ⟨h.os,h.tape,h.output,h.size,fun k hk=>h.block k hk (by omega)⟩
theorem RepP.drew {w:World} {p:LP} {line:Int} {lo hi:Nat} {b:Nat} (h:RepP w p line lo hi b):RepP w.drew p line lo hi b:=by
 obtain⟨mid,ve,l1,l2,l3,hb,re⟩:=h
 exact⟨mid,ve,l1,l2,l3,hb,re.frame (fun _ _ _=>rfl)⟩
set_option maxHeartbeats 1000000 in
theorem readLine_any (body:Bs) (m above:Int) (w:World) (hl:body.length≤800) (hm:w.cell? ⟨0,0,none⟩=some (.int .i64 m)) :
  Calls Tryz.prog 114 #[.string ⟨body.toArray⟩,.int .i64 above] w fun e w'=>∃ b,e=.returned (.tuple #[.pointer (some ⟨b,0,none⟩),.int .i64 (readLineF body above).2])∧RepP w' (readLineF body above).1 0 w.heap.size w'.heap.size b∧Below w.heap.size w w':=by
 have hlt:0<w.heap.size:=by
  rcases Nat.lt_or_ge 0 w.heap.size with h|h
  ·exact h
  ·simp [World.cell?,Array.getElem?_eq_none h] at hm
 have Hm:=hide hm
 have h0:w.heap.size≠0:=by omega
 have ok0:(⟨0,[],body,0,0⟩:RS).Ok:=⟨hl,by simp,by simp⟩
 have ok1:(startF body).Ok:=ok0.next
 have hs0:body.length≤maxLen:=Nat.le_trans hl (by decide)
 have a0:AtR (w.alloc (.cells #[.int .i64 0,.string ⟨#[]⟩,.string ⟨body.toArray⟩,.int .i64 0,.int .i64 0] 230)) w.heap.size ⟨0,[],body,0,0⟩:=at_new _ _
 have A0:=hide a0
 have Hok1:=hide ok1
 unfold readLineF
 dsimp only
 have Ho1:Hid ((startF body).opn=0):=hide rfl
 generalize hq:lineF above (startF body)=q
 have Hq:=hide hq
 generalize hE:(if q.2.kind=0 then q.2.errno else (q.2.fail 2).errno)=E
 have HE:=hide hE
 clear hm ok0 ok1 a0 hq hE
 go_enter Tryz.func114,Tryz.ntmps114
 go_wp2_with fail
 refine (rnext_any w.heap.size ⟨0,[],body,0,0⟩ _ A0.out hs0).mono ?_
 rintro e w1 ⟨rfl,h1,k1⟩
 have s1':w.heap.size+1≤w1.heap.size:=by have:=k1.size;simpa using this
 have k1':Kept w.heap.size w w1:=((Kept.refl _ _).alloc _).trans k1
 have hm1:=k1'.cell Hm.out (Ne.symm h0)
 have Hm1:=hide hm1;have H1:Hid (AtR w1 w.heap.size (startF body)):=h1;have K1:=hide k1'
 clear h1 k1 k1' hm1
 go_wp2_with fail
 refine (line_any w.heap.size (startF body) m above _ H1.out Hok1.out Ho1.out Hm1.out h0).mono ?_
 rw [Hq.out]
 rintro e w2 ⟨b2,rfl,r2,h2,k2⟩
 have c0:=h2.c0;have c4:=h2.c4
 have H2:=hide h2;have K2:=hide k2;have R2:=hide r2
 clear h2 k2 r2
 have k12:=K1.out.trans K2.out
 have s1:=K1.out.size
 by_cases hk:q.2.kind=0
 ·have hk':(q.2.kind != 0)=false:=by simp [hk]
  have E1:Hid (E=q.2.errno):=by apply hide;rw [<-HE.out,if_pos hk]
  clear hk
  go_wp2
  go_region
  go_wp2
  go_ret2
  exact⟨b2,by rw [E1.out];rfl,(R2.out.widen s1).drew,(k12.toBelow (Nat.le_refl _)).drew⟩
 ·have hk':(q.2.kind != 0)=true:=by simp [hk]
  have E1:Hid (E=(q.2.fail 2).errno):=by apply hide;rw [<-HE.out,if_neg hk]
  clear hk
  go_wp2_with (go_at_call 179;refine (fail_any w.heap.size q.2 2 _ H2.out).mono ?_;rintro e w3 ⟨rfl,h3,k3⟩;have d4:=h3.c4;have H3:=hide h3;have K3:=hide k3;clear h3 k3)
  go_region
  go_wp2
  go_ret2
  obtain⟨mid,ve,l1,l2,l3,hb,re⟩:=R2.out
  refine⟨b2,by rw [E1.out];rfl,⟨mid,ve,by omega,l2,?_,?_,?_⟩,((k12.trans K3.out).toBelow (Nat.le_refl _)).drew⟩
  ·have:=K3.out.size;show b2<w3.heap.size;omega
  ·exact K3.out.at hb (by omega)
  ·exact ((RepE.kept K3.out re (by omega) (by omega)).widen s1 (Nat.le_refl _)).frame (fun _ _ _=>rfl)
end Go.Proofs.YtnhidaamfnjdjaaGreatDoor
