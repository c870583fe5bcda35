import Derived.Test.YtnhidaamfnjdjaaGreatDoorZTmG
namespace Go.Proofs.YtnhidaamfnjdjaaGreatDoor
open Go.RowKit Go.Maps
section
variable {T : List PNode} {K : List (Int × Int)} {B : List (Int × Int × Int)} {steps : Int} {s : MS} {t : TS} {p : Nat}
structure StepK (T:List PNode) (K:List (Int×Int)) (B:List (Int×Int×Int)) (s:MS) (t:TS) (p i n:Nat) (l:List (Nat×Nat)):Prop where
 cur:CurK T K B s t p
 wf:WfT T
 inr:InT T n
 vl:t.vars.length=n
 cl:t.chans.length=n
 kl:K.length≤1000000
 hi:i<T.length
 ho:(s.pr p).opn=[]
def TS.todo (t:TS) (p:Nat) (l:List (Nat×Nat)):TS:=t.setPr p { t.pr p with pile:=l }
variable {i n : Nat} {l : List (Nat × Nat)}
theorem StepK.varsIn (h:StepK T K B s t p i n l) (k:Nat):varsIn s.vars.length (T.getD k default).expr:=by
 rw [h.cur.sim.vars,h.vl]
 exact h.inr.ex k
theorem StepK.move (h:StepK T K B s t p i n l) {a:Nat} {l':List (Nat×Nat)} (hr:Rep T K B l' a):SimM T K B (s.cfg p (s.pr p) a []) (t.todo p l') :=
 h.cur.move a { t.pr p with pile:=l' } h.ho hr rfl rfl rfl h.cur.told
theorem StepK.leave (h:StepK T K B s t p i n l) (a:Nat) (l':List (Nat×Nat)):SimM T K B (s.cfg p (s.pr p) a []).leave (t.todo p l').leave :=
 (h.cur.gone a { t.pr p with pile:=l' } rfl rfl rfl h.cur.told).1
theorem StepK.fault (h:StepK T K B s t p i n l) (a:Nat) (st:List Int) (hst:st.length≤1000000) (l':List (Nat×Nat)):SimM T K B (s.cfg p (s.pr p) a st).fault (t.todo p l').fault :=
 (h.cur.gone a { t.pr p with pile:=l' } rfl rfl rfl h.cur.told).2 st hst
theorem lt_code {a:Nat} {x:Int×Int} (h:K[a]?=some x):a<K.length:=(List.getElem?_eq_some_iff.1 h).1
theorem StepK.ex (h:StepK T K B s t p i n l) {k a c:Nat} (hx:ExS K (T.getD k default).expr a c) (hc:c<K.length) (d:Int) :
  (∀ v,evalE t.vars (T.getD k default).expr=some v->Goes K B steps d (s.cfg p (s.pr p) a []) d (s.cfg p (s.pr p) c [v]))∧(evalE t.vars (T.getD k default).expr=none->∃ s',Goes K B steps d (s.cfg p (s.pr p) a []) d s'∧∀ l',SimM T K B s' (t.todo p l').fault):=by
 have hlt:=hx.lt
 have hkl:=h.kl
 have g:=ex_goes (K:=K) (B:=B) (steps:=steps) (d:=d) (x:=s.pr p) h.cur.curS h.cur.ltS h.cur.lens hx (h.varsIn k) [] (by simp;omega)
 rw [h.cur.sim.vars] at g
 refine⟨fun v hv=>g.1 v hv,fun hn=>?_⟩
 obtain⟨a',st',hl',hg⟩:=g.2 hn
 exact⟨_,hg,fun l'=>h.fault a' st' (by simp at hl';omega) l'⟩
theorem StepK.one (h:StepK T K B s t p i n l) {a:Nat} {st:List Int} {k v d:Int} (hst:st.length<900000000000) (hK:K[a]?=some (k,v)) (hk0:0≤k) (hk1:k≤24) (hd:k≠0) (hok:okX false B.length (s.cfg p (s.pr p) (a+1) st) p k v=true):Goes K B steps d (s.cfg p (s.pr p) a st) d ((s.cfg p (s.pr p) (a+1) st).exec B p k v):=by
 have:=goes_one (B:=B) (steps:=steps) (d:=d) (x:=s.pr p) (st:=st) h.cur.curS h.cur.ltS h.cur.lens hst hK hk0 hk1 (by omega) hok
 rw [if_neg hd] at this
 exact this
theorem sim_skip (h:StepK T K B s t p i n l) {a b:Nat} (hs:Seg T K B (.node i) a b) (hr:Rep T K B l b) (hk:(T.getD i default).kind=1):SimM T K B (s.cfg p (s.pr p) (a+1) []) (t.todo p l):=by
 cases hs <;> first|exact h.move hr|(exfalso;omega)
theorem seg_stop {a b:Nat} (h:Seg T K B (.node i) a b) (hk:(T.getD i default).kind=2):K[a+1]?=some (20,0):=by
 cases h <;> first|exact (by assumption)|(exfalso;omega)
theorem seg_becomes {a b:Nat} (h:Seg T K B (.node i) a b) (hk:(T.getD i default).kind=3):∃ c,b=c+1∧ExS K (T.getD i default).expr (a+1) c∧K[c]?=some (12,(T.getD i default).nd):=by
 cases h <;> first|exact⟨_,rfl,(by assumption),(by assumption)⟩|(exfalso;omega)
theorem seg_write {a b:Nat} (h:Seg T K B (.node i) a b) (hk:(T.getD i default).kind=4):∃ c,b=c+1∧ExS K (T.getD i default).expr (a+1) c∧((T.getD i default).cd=2∧K[c]?=some (13,0)∨(T.getD i default).cd≠2∧K[c]?=some (14,(T.getD i default).cd)):=by
 cases h <;> first|exact⟨_,rfl,(by assumption),.inl ⟨(by assumption),(by assumption)⟩⟩|exact⟨_,rfl,(by assumption),.inr ⟨(by assumption),(by assumption)⟩⟩|(exfalso;omega)
theorem seg_wait {a b:Nat} (h:Seg T K B (.node i) a b) (hk:(T.getD i default).kind=6):∃ c,b=c+1∧ExS K (T.getD i default).expr (a+1) c∧K[c]?=some (17,0):=by
 cases h <;> first|exact⟨_,rfl,(by assumption),(by assumption)⟩|(exfalso;omega)
theorem seg_loop {a b:Nat} (h:Seg T K B (.node i) a b) (hk:(T.getD i default).kind=10):∃ c d,b=d+1∧ExS K (T.getD i default).expr (a+1) c∧K[c]?=some (18,((d+1:Nat):Int))∧Seg T K B (.nodes (T.getD i default).kids) (c+1) d∧K[d]?=some (19,(a:Int)):=by
 cases h <;> first|exact⟨_,_,rfl,(by assumption),(by assumption),(by assumption),(by assumption)⟩|(exfalso;omega)
theorem seg_choice {a b:Nat} (h:Seg T K B (.node i) a b) (hk:(T.getD i default).kind=11):∃ c,b=c+1∧Seg T K B (.whens (T.getD i default).kids (c+1)) (a+1) c∧K[c]?=some (20,0):=by
 cases h <;> first|exact⟨_,rfl,(by assumption),(by assumption)⟩|(exfalso;omega)
theorem seg_read {a b:Nat} (h:Seg T K B (.node i) a b) (hk:(T.getD i default).kind=5):∃ c j,b=c+1∧BrS K (T.getD i default) j (a+1) c∧K[c]?=some (16,0)∧B[j]?=some ((T.getD i default).cd,(T.getD i default).nd,((c+1:Nat):Int)):=by
 cases h <;> first|exact⟨_,_,rfl,(by assumption),(by assumption),(by assumption)⟩|(exfalso;omega)
theorem seg_alt {a b:Nat} (h:Seg T K B (.node i) a b) (hk:(T.getD i default).kind=13):∃ (c:Nat) (m:List Nat),m.length=(T.getD i default).kids.length∧Seg T K B (.opens ((T.getD i default).kids.zip m)) (a+1) c∧K[c]?=some (16,0)∧Seg T K B (.lands ((T.getD i default).kids.zip m) b) (c+1) b:=by
 cases h <;> first|exact⟨_,_,(by assumption),(by assumption),(by assumption),(by assumption)⟩|(exfalso;omega)
theorem seg_beside {a b:Nat} (h:Seg T K B (.node i) a b) (hk:(T.getD i default).kind=8∨(T.getD i default).kind=9):∃ m:List Nat,m.length=(T.getD i default).kids.length∧(∀ j,j<m.length->K[a+1+j]?=some ((if (T.getD i default).kind=9∧j=0 then 22 else 21),((m.getD j 0:Nat):Int)))∧K[a+1+m.length]?=some (23,(b:Int))∧Seg T K B (.begun ((T.getD i default).kids.zip m)) (a+2+m.length) b:=by
 cases h <;> first|exact⟨_,(by assumption),(by assumption),(by assumption),(by assumption)⟩|(exfalso;omega)
theorem okX_stack {x:PPr} {a:Nat} {st:List Int} {k v:Int} {nb:Nat} (hl:Lens s) (hst:st.length<900000000000) (hp:p<s.procs.length) (h1:1≤st.length) (hk:k=13∨k=18∨(k=12∧inB v s.vars.length=true)):okX false nb (s.cfg p x a st) p k v=true:=by
 have h0:(okLens (s.cfg p x a st)&&Nat.blt p (s.cfg p x a st).procs.length)=true:=by
  rw [Bool.and_eq_true,Nat.blt_eq]
  exact⟨okLens_of hl hst,by simp [MS.cfg,hp]⟩
 have h1:Nat.ble 1 (s.cfg p x a st).stack.length=true:=Nat.ble_eq_true_of_le h1
 unfold okX
 rw [h0,Bool.true_and]
 rcases hk with rfl|rfl|⟨rfl,hv⟩
 ·exact h1
 ·exact h1
 ·show (inB v s.vars.length&&Nat.ble 1 (s.cfg p x a st).stack.length)=true
  rw [hv,h1]
  rfl
theorem sim_stop (h:StepK T K B s t p i n l) {a b:Nat} (hs:Seg T K B (.node i) a b) (hk:(T.getD i default).kind=2) (d:Int):∃ s',Goes K B steps d (s.cfg p (s.pr p) (a+1) []) d s'∧SimM T K B s' (t.todo p l).leave:=by
 have hK:=seg_stop hs hk
 have g:=h.one (B:=B) (steps:=steps) (d:=d) (st:=[]) (by simp) hK (by omega) (by omega) (by omega) (okX_plain h.cur.lens (by simp) h.cur.ltS (by omega))
 exact⟨_,g,h.leave (a+1+1) l⟩
theorem sim_becomes (h:StepK T K B s t p i n l) {a b:Nat} (hs:Seg T K B (.node i) a b) (hr:Rep T K B l b) (hk:(T.getD i default).kind=3) (d:Int):∃ s',Goes K B steps d (s.cfg p (s.pr p) (a+1) []) d s'∧SimM T K B s' (match evalE (t.todo p l).vars (T.getD i default).expr with|none=>(t.todo p l).fault|some v=>{ t.todo p l with vars:=(t.todo p l).vars.set (T.getD i default).nd.toNat v }):=by
 obtain⟨c,rfl,hx,hK⟩:=seg_becomes hs hk
 have e:=h.ex (steps:=steps) hx (lt_code hK) d
 have ev:(t.todo p l).vars=t.vars:=rfl
 rw [ev]
 cases hv:evalE t.vars (T.getD i default).expr with
 | none =>
  obtain⟨s',g,q⟩:=e.2 hv
  exact⟨s',g,q l⟩
 | some v =>
  have g1:=e.1 v hv
  have hnd:=h.inr.nd i
  have hvl:(T.getD i default).nd.toNat<s.vars.length:=by rw [h.cur.sim.vars,h.vl];omega
  have g2:=h.one (B:=B) (steps:=steps) (d:=d) (st:=[v]) (by simp) hK (by omega) (by omega) (by omega) (okX_stack h.cur.lens (by simp) h.cur.ltS (by simp) (.inr (.inr ⟨rfl,by
   unfold inB
   simp only [Bool.and_eq_true,decide_eq_true_eq,Nat.blt_eq]
   exact⟨hnd.1,hvl⟩⟩)))
  refine⟨_,g1.trans g2,?_⟩
  have m:=(h.move hr).setVars (t.vars.set (T.getD i default).nd.toNat v)
  have e12:(s.cfg p (s.pr p) (c+1) [v]).exec B p 12 (T.getD i default).nd={ s.cfg p (s.pr p) (c+1) [] with vars:=t.vars.set (T.getD i default).nd.toNat v }:=by
   show ({ (s.cfg p (s.pr p) (c+1) [v]).pop with vars:=s.vars.set (T.getD i default).nd.toNat (s.cfg p (s.pr p) (c+1) [v]).top }:MS)=_
   have:=top_one s p (s.pr p) (c+1) [] v
   rw [List.nil_append] at this
   rw [this.1,this.2,h.cur.sim.vars]
  rw [e12]
  exact m
end
end Go.Proofs.YtnhidaamfnjdjaaGreatDoor
namespace Go.Proofs.YtnhidaamfnjdjaaGreatDoor
open Go.RowKit Go.Maps
section
variable {T : List PNode} {K : List (Int × Int)} {B : List (Int × Int × Int)} {steps : Int} {s : MS} {t : TS} {p i n : Nat} {l : List (Nat × Nat)}
theorem SimE.wait1 (h:SimM T K B s t) (hp:p<t.procs.length) (hc:t.cur=some p) (ht:(t.pr p).told=0):SimM T K B (s.wait p 1) (t.wait p 1):=by
 have hps:p<s.procs.length:=by rw [h.len];exact hp
 have k:=h.pr p hp (fun x=>x)
 have a:=k.at_ (.inl hc) (by rw [ht];decide)
 have h1:=((h.open (E':=fun i=>i=p∨False) (fun i x=>.inr x)).setPr (p:=p) (.inl rfl) { s.pr p with told:=1 } { t.pr p with told:=1 }).leave
 refine h1.close ?_
 have e1:(s.setPr p { s.pr p with told:=1 }).leave.pr p={ s.pr p with told:=1 }:=MS.pr_self hps _
 have e2:(t.setPr p { t.pr p with told:=1 }).leave.pr p={ t.pr p with told:=1 }:=TS.pr_self hp _
 rw [e1,e2]
 exact⟨k.above,k.urg,k.below,rfl,fun _ _=>a,fun x=>by cases x⟩
theorem okWays_of (h:InT T n) (hv:s.vars.length=n) (hc:s.chans.length=n) (m:List (Nat×Nat)):okWays s (m.map (wayOf T))=true:=by
 unfold okWays
 rw [List.all_eq_true]
 intro b hb
 obtain⟨kb,_,rfl⟩:=List.mem_map.1 hb
 have h1:=h.cd kb.1
 have h2:=h.nd kb.1
 show (inB (T.getD kb.1 default).cd s.chans.length&&inB (T.getD kb.1 default).nd s.vars.length)=true
 unfold inB
 simp only [Bool.and_eq_true,decide_eq_true_eq,Nat.blt_eq]
 omega
def RdOk (T:List PNode) (t:TS) (c:Int):Prop:=∀ q,(t.ch c).rd=some q->q<t.procs.length∧(t.pr q).told=2∧(t.pr q).opn.length<900000000000∧∃ k∈(t.pr q).opn,(T.getD k default).cd=c
theorem TS.todo_ch (t:TS) (p:Nat) (l:List (Nat×Nat)) (c:Int):(t.todo p l).ch c=t.ch c:=rfl
theorem TS.todo_len (t:TS) (p:Nat) (l:List (Nat×Nat)):(t.todo p l).procs.length=t.procs.length:=TS.len_set t p _
theorem TS.todo_ne (t:TS) {p q:Nat} (h:q≠p) (l:List (Nat×Nat)):(t.todo p l).pr q=t.pr q:=TS.pr_ne t h _
theorem TS.todo_self (t:TS) {p:Nat} (h:p<t.procs.length) (l:List (Nat×Nat)):(t.todo p l).pr p={ t.pr p with pile:=l }:=TS.pr_self h _
theorem StepK.ne (h:StepK T K B s t p i n l) {q:Nat} (hq:(t.pr q).told=2):q≠p:=by
 rintro rfl
 rw [h.cur.told] at hq
 cases hq
theorem sim_write (h:StepK T K B s t p i n l) {a b:Nat} (hs:Seg T K B (.node i) a b) (hr:Rep T K B l b) (hk:(T.getD i default).kind=4) (hrd:RdOk T t (T.getD i default).cd) (hnl:(t.ch (T.getD i default).cd).nums.length<19000000000000) (d:Int):∃ s',Goes K B steps d (s.cfg p (s.pr p) (a+1) []) d s'∧SimM T K B s' (match evalE (t.todo p l).vars (T.getD i default).expr with
  | none=>(t.todo p l).fault
  | some v =>
   if (T.getD i default).cd=2 then { t.todo p l with out:=(t.todo p l).out++[v] }
   else match (t.todo p l).send T (T.getD i default).cd v with
    | (true,t1)=>t1
    | (false,t1)=>(t1.setCh (T.getD i default).cd { t1.ch (T.getD i default).cd with wr:=some p }).wait p 1):=by
 obtain⟨c,rfl,hx,hc⟩:=seg_write hs hk
 have hcl:c<K.length:=by rcases hc with ⟨_,h⟩|⟨_,h⟩ <;> exact lt_code h
 have e:=h.ex (steps:=steps) hx hcl d
 have ev:(t.todo p l).vars=t.vars:=rfl
 rw [ev]
 cases hv:evalE t.vars (T.getD i default).expr with
 | none =>
  obtain⟨s',g,q⟩:=e.2 hv
  exact⟨s',g,q l⟩
 | some v =>
  have g1:=e.1 v hv
  have hone:=top_one s p (s.pr p) (c+1) [] v
  rw [List.nil_append] at hone
  have m:=h.move hr
  dsimp only
  rcases hc with ⟨h2,hK⟩|⟨h2,hK⟩
  ·rw [if_pos h2]
   have g2:=h.one (B:=B) (steps:=steps) (d:=d) (st:=[v]) (by simp) hK (by omega) (by omega) (by omega) (okX_stack h.cur.lens (by simp) h.cur.ltS (by simp) (.inl rfl))
   refine⟨_,g1.trans g2,?_⟩
   have e13:(s.cfg p (s.pr p) (c+1) [v]).exec B p 13 0={ s.cfg p (s.pr p) (c+1) [] with out:=t.out++[v] }:=by
    show ({ (s.cfg p (s.pr p) (c+1) [v]).pop with out:=s.out++[(s.cfg p (s.pr p) (c+1) [v]).top] }:MS)=_
    rw [hone.1,hone.2,h.cur.sim.out]
   rw [e13]
   exact { m with out:=rfl,pr:=fun i hi hn=>(m.pr i hi hn).weak (fun x=>x) }
  ·rw [if_neg h2]
   generalize hcd:(T.getD i default).cd=cd at *
   have hcr:=h.inr.cd i
   rw [hcd] at hcr
   have hclS:s.chans.length=n:=by rw [h.cur.sim.chans,h.cl]
   have hvlS:s.vars.length=n:=by rw [h.cur.sim.vars,h.vl]
   have echS:s.ch cd=t.ch cd:=h.cur.sim.ch cd
   have g2:=h.one (B:=B) (steps:=steps) (d:=d) (st:=[v]) (by simp) hK (by omega) (by omega) (by omega) (okX_core (c:=inB cd s.chans.length&&Nat.ble 1 [v].length&&Nat.blt (s.ch cd).nums.length 19000000000000&&(match (s.ch cd).rd with|none=>true|some q=>Nat.blt q (s.cfg p (s.pr p) (c+1) [v]).procs.length&&Nat.beq ((s.cfg p (s.pr p) (c+1) [v]).pr q).told 2&&okWays s ((s.cfg p (s.pr p) (c+1) [v]).pr q).opn&&Nat.blt ((s.cfg p (s.pr p) (c+1) [v]).pr q).opn.length 900000000000)) h.cur.lens (by simp) h.cur.ltS (fun e=>by unfold okX;rw [e,Bool.true_and];rfl) (by
    rw [echS]
    simp only [Bool.and_eq_true]
    refine⟨⟨⟨?_,rfl⟩,by rw [Nat.blt_eq];exact hnl⟩,?_⟩
    ·unfold inB
     simp only [Bool.and_eq_true,decide_eq_true_eq,Nat.blt_eq]
     omega
    ·cases hq:(t.ch cd).rd with
     | none=>rfl
     | some q =>
      obtain⟨q1,q2,q3,_⟩:=hrd q hq
      have kq:=h.cur.sim.pr q q1 (fun x=>x)
      obtain⟨lq,hl1,hl2,_⟩:=kq.opn q2
      dsimp only
      rw [cfg_pr_ne (h.ne q2),cfg_len,kq.told,q2,hl2,okWays_of h.inr hvlS hclS]
      simp only [Bool.and_eq_true,Nat.blt_eq]
      refine⟨⟨⟨by rw [h.cur.sim.len];exact q1,rfl⟩,trivial⟩,?_⟩
      rw [List.length_map]
      rw [hl1,List.length_map] at q3
      exact q3))
   refine⟨_,g1.trans g2,?_⟩
   have e14:(s.cfg p (s.pr p) (c+1) [v]).exec B p 14 cd=(match (s.cfg p (s.pr p) (c+1) []).send cd v with
     | (true,s1)=>s1
     | (false,s1)=>(s1.setCh cd { s1.ch cd with wr:=some p }).wait p 1):=by
    show (match (s.cfg p (s.pr p) (c+1) [v]).pop.send cd (s.cfg p (s.pr p) (c+1) [v]).top with
     | (true,s1)=>s1
     | (false,s1)=>(s1.setCh cd { s1.ch cd with wr:=some p }).wait p 1)=_
    rw [hone.1,hone.2]
   rw [e14]
   have sd:=m.send cd v (fun q hq=>by
    obtain⟨q1,q2,_,q4⟩:=hrd q hq
    refine⟨fun x=>x,by rw [TS.todo_len];exact q1,?_,?_⟩
    ·rw [TS.todo_ne t (h.ne q2)];exact q2
    ·rw [TS.todo_ne t (h.ne q2)];exact q4)
   have hno:∀ t1,(t.todo p l).send T cd v=(false,t1)->t1.cur=some p∧t1.procs=(t.todo p l).procs:=by
    intro t1 he
    unfold TS.send at he
    split at he
    ·injection he with _ he
     subst he
     exact⟨h.cur.cur,rfl⟩
    ·injection he with he _
     cases he
   generalize (s.cfg p (s.pr p) (c+1) []).send cd v=S at *
   generalize (t.todo p l).send T cd v=U at *
   obtain⟨f1,s1⟩:=S
   obtain⟨f2,t1⟩:=U
   have sd1:f1=f2:=sd.1
   have sd2:SimM T K B s1 t1:=sd.2
   subst sd1
   cases f1 with
   | true=>exact sd2
   | false =>
    obtain⟨c1,c2⟩:=hno t1 rfl
    dsimp only
    rw [sd2.ch]
    have e0:(t1.setCh cd { t1.ch cd with wr:=some p }).procs=(t.todo p l).procs:=c2
    refine (sd2.setCh cd { t1.ch cd with wr:=some p }).wait1 ?_ c1 ?_
    ·rw [e0,TS.todo_len];exact h.cur.lt
    ·rw [TS.pr_procs e0,TS.todo_self t h.cur.lt];exact h.cur.told
structure InRt (t:TS):Prop where
 urg:∀ i∈t.urg,i<t.procs.length
 oth:∀ i∈t.oth,i<t.procs.length
 asleep:∀ x∈t.asleep,x.2.2<t.procs.length
 rd:∀ x∈t.chans,∀ q,x.rd=some q->q<t.procs.length
 wr:∀ x∈t.chans,∀ q,x.wr=some q->q<t.procs.length
 cur:∀ q,t.cur=some q->q<t.procs.length
 above:∀ i,i<t.procs.length->∀ q,(t.pr i).above=some q->q<t.procs.length
theorem okO_of {o:Option Nat} {m:Nat} (h:∀ q,o=some q->q<m):okO o m=true:=by
 cases o with
 | none=>rfl
 | some q =>
  show Nat.blt q m=true
  rw [Nat.blt_eq]
  exact h q rfl
theorem okInR_of (h:SimM T K B s t) (r:InRt t):okInR s=true:=by
 unfold okInR
 simp only [Bool.and_eq_true,List.all_eq_true,Nat.blt_eq]
 rw [h.len,h.urg,h.oth,h.asleep,h.chans,h.cur]
 refine⟨⟨⟨⟨⟨r.urg,r.oth⟩,r.asleep⟩,fun x hx=>⟨okO_of (r.rd x hx),okO_of (r.wr x hx)⟩⟩,okO_of r.cur⟩,fun x hx=>?_⟩
 obtain⟨i,hi,rfl⟩:=List.getElem_of_mem hx
 have hi2:i<t.procs.length:=by rw [<-h.len];exact hi
 have k:=h.pr i hi2 (fun x=>x)
 have e:s.pr i=s.procs[i]:=by unfold MS.pr;rw [getD_lt _ _ _ hi]
 rw [<-e,k.above]
 exact okO_of (r.above i hi2)
theorem InRt.todo (r:InRt t) (hp:p<t.procs.length) (l:List (Nat×Nat)):InRt (t.todo p l) where
 urg:=fun i h=>by rw [TS.todo_len];exact r.urg i h
 oth:=fun i h=>by rw [TS.todo_len];exact r.oth i h
 asleep:=fun i h=>by rw [TS.todo_len];exact r.asleep i h
 rd:=fun x h q e=>by rw [TS.todo_len];exact r.rd x h q e
 wr:=fun x h q e=>by rw [TS.todo_len];exact r.wr x h q e
 cur:=fun q e=>by rw [TS.todo_len];exact r.cur q e
 above:=fun i hi q e=>by
  rw [TS.todo_len] at hi ⊢
  by_cases ip:i=p
  ·subst ip
   rw [TS.todo_self t hi] at e
   exact r.above i hi q e
  ·rw [TS.todo_ne t ip] at e
   exact r.above i hi q e
theorem okX_sleep {nb:Nat} {v:Int} (h:(okLens s&&Nat.blt p s.procs.length)=true) (h1:Nat.ble 1 s.stack.length=true) (h2:okInR s=true) (ht0:0≤s.time) (ht1:s.time<9000000000000000000) (hs0:0≤s.slept) (hs1:s.slept<1000000000000):okX false nb s p 17 v=true:=by
 unfold okX
 rw [h,Bool.true_and,if_neg (by decide),if_neg (by decide),if_neg (by decide),if_neg (by decide),if_neg (by decide),if_neg (by decide),if_neg (by decide),if_neg (by decide),if_pos rfl,h1,h2,decide_eq_true ht0,decide_eq_true ht1,decide_eq_true hs0,decide_eq_true hs1]
 rfl
theorem exec_sleep (s:MS) (p:Nat) (v:Int):s.exec B p 17 v=(if s.top > 1000000 then s.pop.fault
  else if s.top > 0 then ({ s.pop with asleep:=pushF' (w64 (s.time+s.top),s.slept,p) s.asleep,slept:=s.slept+1 }:MS).wait p 1
  else s.pop):=by
 unfold MS.exec
 rw [if_neg (by decide),if_neg (by decide),if_neg (by decide),if_neg (by decide),if_neg (by decide),if_neg (by decide),if_neg (by decide),if_neg (by decide),if_neg (by decide),if_neg (by decide),if_neg (by decide),if_neg (by decide),if_neg (by decide),if_neg (by decide),if_neg (by decide),if_neg (by decide),if_neg (by decide),if_pos rfl]
theorem cfg_time (x:PPr) (a:Nat) (st:List Int):(s.cfg p x a st).time=s.time∧(s.cfg p x a st).slept=s.slept∧(s.cfg p x a st).asleep=s.asleep:=⟨rfl,rfl,rfl⟩
theorem sim_wait (h:StepK T K B s t p i n l) {a b:Nat} (hs:Seg T K B (.node i) a b) (hr:Rep T K B l b) (hk:(T.getD i default).kind=6) (hin:InRt t) (ht0:0≤t.time) (ht1:t.time<9000000000000000000) (hs0:0≤t.slept) (hs1:t.slept<1000000000000) (d:Int):∃ s',Goes K B steps d (s.cfg p (s.pr p) (a+1) []) d s'∧SimM T K B s' (match evalE (t.todo p l).vars (T.getD i default).expr with
  | none=>(t.todo p l).fault
  | some v =>
   if v > 1000000 then (t.todo p l).fault
   else if v > 0 then ({ t.todo p l with asleep:=pushF' (w64 ((t.todo p l).time+v),(t.todo p l).slept,p) (t.todo p l).asleep,slept:=(t.todo p l).slept+1 }:TS).wait p 1
   else t.todo p l):=by
 obtain⟨c,rfl,hx,hK⟩:=seg_wait hs hk
 have e:=h.ex (steps:=steps) hx (lt_code hK) d
 have ev:(t.todo p l).vars=t.vars:=rfl
 rw [ev]
 cases hv:evalE t.vars (T.getD i default).expr with
 | none =>
  obtain⟨s',g,q⟩:=e.2 hv
  exact⟨s',g,q l⟩
 | some v =>
  have g1:=e.1 v hv
  have hone:=top_one s p (s.pr p) (c+1) [] v
  rw [List.nil_append] at hone
  have m:=h.move hr
  have oin0:okInR (s.cfg p (s.pr p) (c+1) [])=true:=okInR_of m (hin.todo h.cur.lt l)
  have oin:okInR (s.cfg p (s.pr p) (c+1) [v])=true:=oin0
  have g2:=h.one (B:=B) (steps:=steps) (d:=d) (st:=[v]) (by simp) hK (by decide) (by decide) (by decide) (okX_sleep (by
   rw [Bool.and_eq_true,Nat.blt_eq]
   exact⟨okLens_of h.cur.lens (by simp [MS.cfg]),by rw [cfg_len];exact h.cur.ltS⟩) rfl oin (by rw [<-h.cur.sim.time] at ht0;exact ht0) (by rw [<-h.cur.sim.time] at ht1;exact ht1) (by rw [<-h.cur.sim.slept] at hs0;exact hs0) (by rw [<-h.cur.sim.slept] at hs1;exact hs1))
  dsimp only
  have e17:(s.cfg p (s.pr p) (c+1) [v]).exec B p 17 0=(if v > 1000000 then (s.cfg p (s.pr p) (c+1) []).fault else if v > 0 then ({ s.cfg p (s.pr p) (c+1) [] with asleep:=pushF' (w64 (t.time+v),t.slept,p) t.asleep,slept:=t.slept+1 }:MS).wait p 1 else s.cfg p (s.pr p) (c+1) []):=by
   have ct:=cfg_time (s:=s) (p:=p) (s.pr p) (c+1) [v]
   rw [exec_sleep,hone.1,hone.2,ct.1,ct.2.1,ct.2.2,h.cur.sim.time,h.cur.sim.slept,h.cur.sim.asleep]
  rw [e17] at g2
  refine⟨_,g1.trans g2,?_⟩
  by_cases v1:v > 1000000
  ·rw [if_pos v1,if_pos v1]
   exact h.fault (c+1) [] (Nat.zero_le _) l
  ·rw [if_neg v1,if_neg v1]
   by_cases v0:v > 0
   ·rw [if_pos v0,if_pos v0]
    have m2:SimM T K B { s.cfg p (s.pr p) (c+1) [] with asleep:=pushF' (w64 (t.time+v),t.slept,p) t.asleep,slept:=t.slept+1 } { t.todo p l with asleep:=pushF' (w64 (t.time+v),t.slept,p) t.asleep,slept:=t.slept+1 }:={ m with asleep:=rfl,slept:=rfl,pr:=fun i hi hn=>(m.pr i hi hn).weak (fun x=>x) }
    refine m2.wait1 ?_ h.cur.cur ?_
    ·show p<(t.todo p l).procs.length
     rw [TS.todo_len];exact h.cur.lt
    ·show ((t.todo p l).pr p).told=0
     rw [TS.todo_self t h.cur.lt];exact h.cur.told
   ·rw [if_neg v0,if_neg v0]
    exact m
theorem exec_unless (hp:p<s.procs.length) (x:PPr) (a b:Nat) (v:Int):(s.cfg p x a [v]).exec B p 18 (b:Int)=if v=0 then s.cfg p x b [] else s.cfg p x a []:=by
 have hone:=top_one s p x a [] v
 rw [List.nil_append] at hone
 show (if (s.cfg p x a [v]).top=0 then (s.cfg p x a [v]).pop.jump p b else (s.cfg p x a [v]).pop)=_
 rw [hone.1,hone.2]
 have:(s.cfg p x a []).jump p b=s.cfg p x b []:=by
  unfold MS.jump
  rw [cfg_pr hp,cfg_setPr]
  rfl
 rw [this]
theorem TS.todo_push (t:TS) {p:Nat} (hp:p<t.procs.length) (l:List (Nat×Nat)) (x:Nat×Nat):(t.todo p l).push p x=t.todo p (x :: l):=TS.push_set t hp _ x
theorem TS.todo_down (t:TS) {p:Nat} (hp:p<t.procs.length) (l:List (Nat×Nat)) (k:Nat):(t.todo p l).down T p k=t.todo p (((T.getD k default).kids.getD 0 0,0) :: l):=TS.todo_push t hp l _
theorem sim_loop (h:StepK T K B s t p i n l) {a b:Nat} (hs:Seg T K B (.node i) a b) (hr:Rep T K B l b) (hk:(T.getD i default).kind=10) (d:Int):∃ s',Goes K B steps d (s.cfg p (s.pr p) (a+1) []) d s'∧SimM T K B s' (match evalE (t.todo p l).vars (T.getD i default).expr with
  | none=>(t.todo p l).fault
  | some v=>if v=0 then t.todo p l else ((t.todo p l).push p (i,0)).down T p i):=by
 have hs0:=hs
 obtain⟨c,e,rfl,hx,hK,hb,hJ⟩:=seg_loop hs hk
 have ex:=h.ex (steps:=steps) hx (lt_code hK) d
 have ev:(t.todo p l).vars=t.vars:=rfl
 rw [ev]
 cases hv:evalE t.vars (T.getD i default).expr with
 | none =>
  obtain⟨s',g,q⟩:=ex.2 hv
  exact⟨s',g,q l⟩
 | some v =>
  have g1:=ex.1 v hv
  have g2:=h.one (B:=B) (steps:=steps) (d:=d) (st:=[v]) (by simp) hK (by omega) (by omega) (by omega) (okX_stack h.cur.lens (by simp) h.cur.ltS (by simp) (.inr (.inl rfl)))
  rw [exec_unless h.cur.ltS] at g2
  refine⟨_,g1.trans g2,?_⟩
  dsimp only
  by_cases v0:v=0
  ·rw [if_pos v0,if_pos v0]
   exact h.move hr
  ·rw [if_neg v0,if_neg v0,TS.todo_push t h.cur.lt,TS.todo_down t h.cur.lt]
   exact h.move (.node (seg_below hb (h.wf.one i h.hi (.inl hk))) (.jump hJ (.node hs0 hr)))
theorem whens_goes (h:StepK T K B s t p i n l) {lv:Nat} (hr:Rep T K B l lv) (d:Int):∀ (ks:List Nat) (a c:Nat),(∀ k∈ks,(T.getD k default).kids.length=1)->Seg T K B (.whens ks lv) a c ->
  match TS.firstW T t.vars ks with
  | none=>∃ s',Goes K B steps d (s.cfg p (s.pr p) a []) d s'∧∀ l',SimM T K B s' (t.todo p l').fault
  | some none=>Goes K B steps d (s.cfg p (s.pr p) a []) d (s.cfg p (s.pr p) c [])
  | some (some k)=>∃ a',Goes K B steps d (s.cfg p (s.pr p) a []) d (s.cfg p (s.pr p) a' [])∧Rep T K B (((T.getD k default).kids.getD 0 0,0) :: l) a'
 | [],a,c,_,hs=>by
  cases hs with
  | wnil=>exact Goes.refl _ _
 | k :: ks,a,c,hk1,hs=>by
  cases hs with
  | @wcons _ _ c1 d1 _ _ _ hx hK hb hJ hrest =>
   have ih:=whens_goes h hr d ks (d1+1) c (fun k hk=>hk1 k (by simp [hk])) hrest
   have ex:=h.ex (steps:=steps) hx (lt_code hK) d
   show match (match evalE t.vars (T.getD k default).expr with
    | none=>none
    | some v=>if v=0 then TS.firstW T t.vars ks else some (some k)) with
    | none=>_
    | some none=>_
    | some (some k)=>_
   cases hv:evalE t.vars (T.getD k default).expr with
   | none=>exact ex.2 hv
   | some v =>
    have g1:=ex.1 v hv
    have g2:=h.one (B:=B) (steps:=steps) (d:=d) (st:=[v]) (by simp) hK (by omega) (by omega) (by omega) (okX_stack h.cur.lens (by simp) h.cur.ltS (by simp) (.inr (.inl rfl)))
    rw [exec_unless h.cur.ltS] at g2
    have g:=g1.trans g2
    dsimp only
    by_cases v0:v=0
    ·rw [if_pos v0] at g ⊢
     cases hf:TS.firstW T t.vars ks with
     | none =>
      rw [hf] at ih
      obtain⟨s',q1,q2⟩:=ih
      exact⟨s',g.trans q1,q2⟩
     | some o =>
      cases o with
      | none=>rw [hf] at ih;exact g.trans ih
      | some k' =>
       rw [hf] at ih
       obtain⟨a',q1,q2⟩:=ih
       exact⟨a',g.trans q1,q2⟩
    ·rw [if_neg v0] at g ⊢
     exact⟨_,g,.node (seg_below hb (hk1 k (by simp))) (.jump hJ hr)⟩
theorem sim_choice (h:StepK T K B s t p i n l) {a b:Nat} (hs:Seg T K B (.node i) a b) (hr:Rep T K B l b) (hk:(T.getD i default).kind=11) (d:Int):∃ s',Goes K B steps d (s.cfg p (s.pr p) (a+1) []) d s'∧SimM T K B s' (match TS.firstW T (t.todo p l).vars (T.getD i default).kids with
  | none=>(t.todo p l).fault
  | some none=>(t.todo p l).leave
  | some (some k)=>(t.todo p l).down T p k):=by
 obtain⟨c,rfl,hw,hK⟩:=seg_choice hs hk
 have ev:(t.todo p l).vars=t.vars:=rfl
 rw [ev]
 have w:=whens_goes (steps:=steps) h hr d (T.getD i default).kids (a+1) c (fun k hk2=>h.wf.one k (h.wf.up i k hk2).2 (.inr (.inl (h.wf.whens i h.hi hk k hk2).1))) hw
 cases hf:TS.firstW T t.vars (T.getD i default).kids with
 | none =>
  rw [hf] at w
  obtain⟨s',g,q⟩:=w
  exact⟨s',g,q l⟩
 | some o =>
  cases o with
  | none =>
   rw [hf] at w
   have g2:=h.one (B:=B) (steps:=steps) (d:=d) (st:=[]) (by simp) hK (by omega) (by omega) (by omega) (okX_plain h.cur.lens (by simp) h.cur.ltS (by omega))
   exact⟨_,Goes.trans w g2,h.leave (c+1) l⟩
  | some k =>
   rw [hf] at w
   obtain⟨a',g,q⟩:=w
   refine⟨_,g,?_⟩
   dsimp only
   rw [TS.todo_down t h.cur.lt]
   exact h.move q
end
end Go.Proofs.YtnhidaamfnjdjaaGreatDoor
namespace Go.Proofs.YtnhidaamfnjdjaaGreatDoor
open Go.RowKit Go.Maps
section
variable {T : List PNode} {K : List (Int × Int)} {B : List (Int × Int × Int)} {steps : Int} {s : MS} {t : TS} {p i n : Nat} {l : List (Nat × Nat)}
theorem StepK.faultX (h:StepK T K B s t p i n l) (x:PPr) (hx:x.above=(s.pr p).above∧x.urg=(s.pr p).urg∧x.below=(s.pr p).below∧x.told=(s.pr p).told) (a:Nat) (st:List Int) (hst:st.length≤1000000) (l':List (Nat×Nat)):SimM T K B (s.cfg p x a st).fault (t.todo p l').fault:=by
 have k:=h.cur.sim.pr p h.cur.lt (fun x=>x)
 have ap:=(h.cur.sim.apart p x a { t.pr p with pile:=l' }).fault
 have eS:(s.cfg p x a []).fault.pr p={ x with at_:=(a:Int) }:=cfg_pr h.cur.ltS x a []
 have eT:(t.todo p l').fault.pr p={ t.pr p with pile:=l' }:=TS.pr_self h.cur.lt _
 have q:SimM T K B (s.cfg p x a []).fault (t.todo p l').fault:=by
  refine ap.dead ?_ ?_ ?_ ?_ ?_ ?_
  ·rw [eS];rw [show (TS.setPr t p { t.pr p with pile:=l' }).fault.pr p=_ from eT];exact hx.1.trans k.above
  ·rw [eS];rw [show (TS.setPr t p { t.pr p with pile:=l' }).fault.pr p=_ from eT];exact hx.2.1.trans k.urg
  ·rw [eS];rw [show (TS.setPr t p { t.pr p with pile:=l' }).fault.pr p=_ from eT];exact hx.2.2.1.trans k.below
  ·rw [eS];show x.told=0;rw [hx.2.2.2,k.told];exact h.cur.told
  ·rw [show (TS.setPr t p { t.pr p with pile:=l' }).fault.pr p=_ from eT];exact h.cur.told
  ·rintro (x|x|x|x)
   ·cases x
   ·exact h.cur.out.1 x
   ·exact h.cur.out.2 x
   ·rw [show (TS.setPr t p { t.pr p with pile:=l' }).fault.pr p=_ from eT] at x
    exact x h.cur.told
 exact q.restack rfl st hst
def openL (T:List PNode) (vars:List Int):List (Nat×Nat)->Option (List (Nat×Nat))
 | []=>some []
 | kj :: l=>match guardE vars (T.getD kj.1 default).expr with
  | none=>none
  | some v=>match openL T vars l with
   | none=>none
   | some o=>some (if v=0 then o else kj :: o)
theorem opens_L (vars:List Int):∀ l:List (Nat×Nat),TS.opens T vars (l.map Prod.fst)=(openL T vars l).map (fun m=>m.map Prod.fst)
 | []=>rfl
 | kj :: l=>by
  show (match guardE vars (T.getD kj.1 default).expr with
   | none=>none
   | some v=>match TS.opens T vars (l.map Prod.fst) with
    | none=>none
    | some o=>some (if v=0 then o else kj.1 :: o))=_
  rw [opens_L vars l]
  show _=Option.map _ (match guardE vars (T.getD kj.1 default).expr with
   | none=>none
   | some v=>match openL T vars l with
    | none=>none
    | some o=>some (if v=0 then o else kj :: o))
  cases guardE vars (T.getD kj.1 default).expr with
  | none=>rfl
  | some v =>
   cases openL T vars l with
   | none=>rfl
   | some o =>
    dsimp only [Option.map_some]
    split <;> rfl
theorem openL_sub (vars:List Int):∀ (l m:List (Nat×Nat)),openL T vars l=some m->m.Sublist l
 | [],m,h=>by
  have h:some []=some m:=h
  injection h with h
  rw [<-h]
  exact List.Sublist.refl _
 | kj :: l,m,h=>by
  have h:(match guardE vars (T.getD kj.1 default).expr with
   | none=>none
   | some v=>match openL T vars l with
    | none=>none
    | some o=>some (if v=0 then o else kj :: o))=some m:=h
  cases hg:guardE vars (T.getD kj.1 default).expr with
  | none=>rw [hg] at h;cases h
  | some v =>
   rw [hg] at h
   dsimp only at h
   cases ho:openL T vars l with
   | none=>rw [ho] at h;cases h
   | some o =>
    rw [ho] at h
    dsimp only at h
    injection h with h
    have ih:=openL_sub vars l o ho
    rw [<-h]
    split
    ·exact ih.cons _
    ·exact ih.cons_cons _
theorem guard_ex (vars:List Int) (e:PE) (h:e≠.nil):guardE vars e=evalE vars e:=by
 cases e with
 | nil=>exact absurd rfl h
 | num v=>rfl
 | var n d=>rfl
 | pair o a b=>rfl
def MS.ways (s:MS) (p:Nat) (o:List (Int×Int×Int)):PPr:={ s.pr p with opn:=o }
theorem StepK.oneX (h:StepK T K B s t p i n l) {a:Nat} (x:PPr) {st:List Int} {k v d:Int} (hst:st.length<900000000000) (hK:K[a]?=some (k,v)) (hk0:0≤k) (hk1:k≤24) (hd:k≠0) (hok:okX false B.length (s.cfg p x (a+1) st) p k v=true):Goes K B steps d (s.cfg p x a st) d ((s.cfg p x (a+1) st).exec B p k v):=by
 have:=goes_one (B:=B) (steps:=steps) (d:=d) (x:=x) (st:=st) h.cur.curS h.cur.ltS h.cur.lens hst hK hk0 hk1 (by omega) hok
 rw [if_neg hd] at this
 exact this
theorem open_one (h:StepK T K B s t p i n l) {a j:Nat} (o:List (Int×Int×Int)) (ho:o.length<900000) (hj:j<B.length) (hK:K[a]?=some (15,(j:Int))) (d:Int):Goes K B steps d (s.cfg p (s.ways p o) a []) d (s.cfg p (s.ways p (o++[B.getD j (0,0,0)])) (a+1) []):=by
 have hpr:=cfg_pr h.cur.ltS (s.ways p o) (a+1) []
 have g:=h.oneX (B:=B) (steps:=steps) (d:=d) (s.ways p o) (st:=[]) (by simp) hK (by decide) (by decide) (by decide) (okX_core (c:=inB (j:Int) B.length&&Nat.blt ((s.cfg p (s.ways p o) (a+1) []).pr p).opn.length 900000) h.cur.lens (by simp) h.cur.ltS (fun e=>by unfold okX;rw [e,Bool.true_and];rfl) (by
  rw [hpr,inB_of hj]
  show Nat.blt o.length 900000=true
  rw [Nat.blt_eq]
  exact ho))
 have e15:(s.cfg p (s.ways p o) (a+1) []).exec B p 15 (j:Int)=s.cfg p (s.ways p (o++[B.getD j (0,0,0)])) (a+1) []:=by
  show (s.cfg p (s.ways p o) (a+1) []).setPr p { (s.cfg p (s.ways p o) (a+1) []).pr p with opn:=((s.cfg p (s.ways p o) (a+1) []).pr p).opn++[B.getD (j:Int).toNat (0,0,0)] }=_
  rw [hpr,Int.toNat_natCast,cfg_setPr]
  rfl
 rw [e15] at g
 exact g
theorem opens_goes (h:StepK T K B s t p i n l) (d:Int):∀ (ks:List (Nat×Nat)) (a c:Nat) (o:List (Int×Int×Int)),o.length+ks.length<900000->(∀ kj∈ks,kj.2<B.length)->Seg T K B (.opens ks) a c ->
  match openL T t.vars ks with
  | none=>∃ s',Goes K B steps d (s.cfg p (s.ways p o) a []) d s'∧∀ l',SimM T K B s' (t.todo p l').fault
  | some m=>Goes K B steps d (s.cfg p (s.ways p o) a []) d (s.cfg p (s.ways p (o++m.map (fun kj=>B.getD kj.2 (0,0,0)))) c [])
 | [],a,c,o,_,_,hs=>by
  cases hs with
  | onil =>
   show Goes K B steps d _ d (s.cfg p (s.ways p (o++[])) _ [])
   rw [List.append_nil]
   exact Goes.refl _ _
 | (k,j) :: ks,a,c,o,hl,hj,hs=>by
  rw [List.length_cons] at hl
  cases hs with
  | @ocons _ _ _ b _ _ hb hrest =>
   have hjb:j<B.length:=hj (k,j) (by simp)
   have key:=fun (o':List (Int×Int×Int)) (ho':o'.length≤o.length+1)=>opens_goes h d ks b c o' (by omega) (fun kj hk=>hj kj (by simp [hk])) hrest
   have fin:∀ (o':List (Int×Int×Int)),o'.length≤o.length+1->Goes K B steps d (s.cfg p (s.ways p o) a []) d (s.cfg p (s.ways p o') b [])->match openL T t.vars ks with
     | none=>∃ s',Goes K B steps d (s.cfg p (s.ways p o) a []) d s'∧∀ l',SimM T K B s' (t.todo p l').fault
     | some m=>Goes K B steps d (s.cfg p (s.ways p o) a []) d (s.cfg p (s.ways p (o'++m.map (fun kj=>B.getD kj.2 (0,0,0)))) c []):=by
    intro o' ho' g
    have ih:=key o' ho'
    cases hm:openL T t.vars ks with
    | none =>
     rw [hm] at ih
     obtain⟨s',q1,q2⟩:=ih
     exact⟨s',g.trans q1,q2⟩
    | some m =>
     rw [hm] at ih
     exact g.trans ih
   have eo:openL T t.vars ((k,j) :: ks)=(match guardE t.vars (T.getD k default).expr with
    | none=>none
    | some v=>match openL T t.vars ks with
     | none=>none
     | some o=>some (if v=0 then o else (k,j) :: o)):=rfl
   have take:∀ v,guardE t.vars (T.getD k default).expr=some v->v≠0->Goes K B steps d (s.cfg p (s.ways p o) a []) d (s.cfg p (s.ways p (o++[B.getD j (0,0,0)])) b [])->match openL T t.vars ((k,j) :: ks) with
     | none=>∃ s',Goes K B steps d (s.cfg p (s.ways p o) a []) d s'∧∀ l',SimM T K B s' (t.todo p l').fault
     | some m=>Goes K B steps d (s.cfg p (s.ways p o) a []) d (s.cfg p (s.ways p (o++m.map (fun kj=>B.getD kj.2 (0,0,0)))) c []):=by
    intro v hv v0 g
    have f:=fin _ (by simp) g
    rw [eo,hv]
    dsimp only
    cases hm:openL T t.vars ks with
    | none=>rw [hm] at f;exact f
    | some m =>
     rw [hm] at f
     dsimp only at f ⊢
     rw [if_neg v0,List.map_cons]
     rw [List.append_assoc] at f
     exact f
   cases hb with
   | free hn hK =>
    refine take 1 (by rw [hn];rfl) (by decide) ?_
    exact open_one h o (by omega) hjb hK d
   | @ask c1 hn hx hK hK2 =>
    have hgd:=guard_ex t.vars _ hn
    have hlt:=hx.lt
    have hkl:=h.kl
    have hc1:=lt_code hK
    have g:=ex_goes (K:=K) (B:=B) (steps:=steps) (d:=d) (x:=s.ways p o) h.cur.curS h.cur.ltS h.cur.lens hx (h.varsIn k) [] (by simp;omega)
    rw [h.cur.sim.vars] at g
    cases hv:evalE t.vars (T.getD k default).expr with
    | none =>
     rw [eo,hgd,hv]
     obtain⟨a',st',hl',q⟩:=g.2 hv
     exact⟨_,q,fun l'=>h.faultX (s.ways p o) ⟨rfl,rfl,rfl,rfl⟩ a' st' (by simp at hl';omega) l'⟩
    | some v =>
     have g1:=g.1 v hv
     rw [List.nil_append] at g1
     have g2:=h.oneX (B:=B) (steps:=steps) (d:=d) (s.ways p o) (st:=[v]) (by simp) hK (by decide) (by decide) (by decide) (okX_stack h.cur.lens (by simp) h.cur.ltS (by simp) (.inr (.inl rfl)))
     rw [exec_unless h.cur.ltS] at g2
     have g3:=g1.trans g2
     by_cases v0:v=0
     ·rw [if_pos v0] at g3
      have f:=fin o (by omega) g3
      rw [eo,hgd,hv]
      dsimp only
      cases hm:openL T t.vars ks with
      | none=>rw [hm] at f;exact f
      | some m =>
       rw [hm] at f
       dsimp only at f ⊢
       rw [if_pos v0]
       exact f
     ·rw [if_neg v0] at g3
      exact take v (hgd.trans hv) v0 (g3.trans (open_one h o (by omega) hjb hK2 d))
end
end Go.Proofs.YtnhidaamfnjdjaaGreatDoor
namespace Go.Proofs.YtnhidaamfnjdjaaGreatDoor
open Go.RowKit Go.Maps
section
variable {T : List PNode} {K : List (Int × Int)} {B : List (Int × Int × Int)} {steps : Int} {s : MS} {t : TS} {p i n : Nat} {l : List (Nat × Nat)}
def WrOk (t:TS):Prop:=∀ y∈t.chans,(∀ q,y.wr=some q->q<t.procs.length∧(t.pr q).told=1)∧y.nums.length<19000000000000
theorem ch_mem {t:TS} {c:Int} (hc:c.toNat<t.chans.length):t.ch c∈t.chans:=by
 unfold TS.ch
 rw [getD_lt _ _ _ hc]
 exact List.getElem_mem hc
theorem MS.goOn_pr (s:MS) {q r:Nat} (hq:q<s.procs.length) (h:r≠q):(s.goOn q).pr r=s.pr r:=by
 rw [MS.goOn_is s hq]
 exact MS.pr_ne s h _
theorem TS.goOn_pr (t:TS) {q r:Nat} (hq:q<t.procs.length) (h:r≠q):(t.goOn q).pr r=t.pr r:=by
 rw [TS.goOn_is t hq]
 exact TS.pr_ne t h _
theorem MS.goOn_cur (s:MS) {q:Nat} (hq:q<s.procs.length):(s.goOn q).cur=s.cur:=by rw [MS.goOn_is s hq]
theorem TS.goOn_cur (t:TS) {q:Nat} (hq:q<t.procs.length):(t.goOn q).cur=t.cur:=by rw [TS.goOn_is t hq]
theorem TS.goOn_len (t:TS) {q:Nat} (hq:q<t.procs.length):(t.goOn q).procs.length=t.procs.length:=by
 rw [TS.goOn_is t hq]
 exact List.length_set
theorem MS.receive_pr (s:MS) (c:Int) {r:Nat} (h:∀ q,((s.setCh c { s.ch c with nums:=(s.ch c).nums.tail }).ch c).wr=some q->q<s.procs.length∧(s.pr q).told=1∧r≠q):(s.receive c).2.pr r=s.pr r∧(s.receive c).2.cur=s.cur:=by
 unfold MS.receive
 dsimp only
 split
 ·exact⟨rfl,rfl⟩
 ·rename_i q hq
  obtain⟨h1,h2,h3⟩:=h q hq
  unfold MS.tell
  have e:(((s.setCh c { s.ch c with nums:=(s.ch c).nums.tail }).setCh c { (s.setCh c { s.ch c with nums:=(s.ch c).nums.tail }).ch c with wr:=none }).pr q).told=1:=h2
  rw [if_neg (by rw [e];decide)]
  exact⟨MS.goOn_pr _ (show q<s.procs.length from h1) h3,MS.goOn_cur _ (show q<s.procs.length from h1)⟩
theorem TS.receive_pr (t:TS) (c:Int) {r:Nat} (h:∀ q,((t.setCh c { t.ch c with nums:=(t.ch c).nums.tail }).ch c).wr=some q->q<t.procs.length∧(t.pr q).told=1∧r≠q):(t.receive T c).2.pr r=t.pr r∧(t.receive T c).2.cur=t.cur∧(t.receive T c).2.procs.length=t.procs.length:=by
 unfold TS.receive
 dsimp only
 split
 ·exact⟨rfl,rfl,rfl⟩
 ·rename_i q hq
  obtain⟨h1,h2,h3⟩:=h q hq
  unfold TS.tell
  have e:(((t.setCh c { t.ch c with nums:=(t.ch c).nums.tail }).setCh c { (t.setCh c { t.ch c with nums:=(t.ch c).nums.tail }).ch c with wr:=none }).pr q).told=1:=h2
  rw [if_neg (by rw [e];decide)]
  exact⟨TS.goOn_pr _ (show q<t.procs.length from h1) h3,TS.goOn_cur _ (show q<t.procs.length from h1),TS.goOn_len _ (show q<t.procs.length from h1)⟩
theorem ch_set_self {t:TS} {c:Int} (hc:c.toNat<t.chans.length) (x:PCh):(t.setCh c x).ch c=x:=by
 unfold TS.ch TS.setCh
 simp [hc]
theorem rds_sim {E:Nat->Prop} (p:Nat) (m:List (Nat×Nat)):∀ {s:MS} {t:TS},SimE T K B E s t ->
  SimE T K B E ((m.map (wayOf T)).foldl (fun (s:MS) (b:Int×Int×Int)=>s.setCh b.1 { s.ch b.1 with rd:=some p }) s) ((m.map Prod.fst).foldl (fun (t:TS) (k:Nat)=>t.setCh (T.getD k default).cd { t.ch (T.getD k default).cd with rd:=some p }) t)∧((m.map (wayOf T)).foldl (fun (s:MS) (b:Int×Int×Int)=>s.setCh b.1 { s.ch b.1 with rd:=some p }) s).procs=s.procs∧((m.map Prod.fst).foldl (fun (t:TS) (k:Nat)=>t.setCh (T.getD k default).cd { t.ch (T.getD k default).cd with rd:=some p }) t).procs=t.procs:=by
 induction m with
 | nil=>intro s t h;exact⟨h,rfl,rfl⟩
 | cons kb m ih =>
  intro s t h
  simp only [List.map_cons,List.foldl_cons]
  have e1:(wayOf T kb).1=(T.getD kb.1 default).cd:=rfl
  rw [e1]
  have h1:SimE T K B E (s.setCh (T.getD kb.1 default).cd { s.ch (T.getD kb.1 default).cd with rd:=some p }) (t.setCh (T.getD kb.1 default).cd { t.ch (T.getD kb.1 default).cd with rd:=some p }):=by
   rw [h.ch]
   exact h.setCh _ _
  have:=ih h1
  exact⟨this.1,this.2.1,this.2.2⟩
theorem sim_reads (h:StepK T K B s t p i n l) {c:Nat} (hK:K[c]?=some (16,0)) (m:List (Nat×Nat)) (hm:m.length<900000000000) (hrep:∀ kb∈m,Rep T K B (afterR T { t.pr p with pile:=l } kb.1) kb.2) (hwr:WrOk t) (d:Int):∃ s',Goes K B steps d (s.cfg p (s.ways p (m.map (wayOf T))) c []) d s'∧SimM T K B s' ((t.todo p l).reads T p (m.map Prod.fst)):=by
 have hpr:=cfg_pr h.cur.ltS (s.ways p (m.map (wayOf T))) (c+1) []
 have hclS:s.chans.length=n:=by rw [h.cur.sim.chans,h.cl]
 have hvlS:s.vars.length=n:=by rw [h.cur.sim.vars,h.vl]
 have hnp:∀ q,(t.pr q).told=1->p≠q:=by
  rintro q hq rfl
  rw [h.cur.told] at hq
  cases hq
 have g:=h.oneX (B:=B) (steps:=steps) (d:=d) (s.ways p (m.map (wayOf T))) (st:=[]) (by simp) hK (by decide) (by decide) (by decide) (okX_core (c:=okWays s ((s.cfg p (s.ways p (m.map (wayOf T))) (c+1) []).pr p).opn&&Nat.blt ((s.cfg p (s.ways p (m.map (wayOf T))) (c+1) []).pr p).opn.length 900000000000&&s.chans.all (fun y=>okWr (s.cfg p (s.ways p (m.map (wayOf T))) (c+1) []) y.wr&&Nat.blt y.nums.length 19000000000000)) h.cur.lens (by simp) h.cur.ltS (fun e=>by unfold okX;rw [e,Bool.true_and];rfl) (by
  rw [hpr]
  show (okWays s (m.map (wayOf T))&&Nat.blt (m.map (wayOf T)).length 900000000000&&_)=true
  rw [okWays_of h.inr hvlS hclS,List.length_map,Bool.true_and,Bool.and_eq_true,Nat.blt_eq,List.all_eq_true]
  refine⟨hm,fun y hy=>?_⟩
  rw [h.cur.sim.chans] at hy
  obtain⟨w1,w2⟩:=hwr y hy
  rw [Bool.and_eq_true,Nat.blt_eq]
  refine⟨?_,w2⟩
  unfold okWr
  split
  ·rfl
  ·rename_i q hq
   obtain⟨q1,q2⟩:=w1 q hq
   unfold okWoken
   rw [cfg_len,cfg_pr_ne (fun e=>hnp q q2 e.symm),(h.cur.sim.pr q q1 (fun x=>x)).told,q2,Bool.and_eq_true,Nat.blt_eq]
   exact⟨by rw [h.cur.sim.len];exact q1,rfl⟩))
 refine⟨_,g,?_⟩
 have ap:=h.cur.sim.apart p (s.ways p (m.map (wayOf T))) (c+1) { t.pr p with pile:=l }
 have kp:=h.cur.sim.pr p h.cur.lt (fun x=>x)
 have e16:(s.cfg p (s.ways p (m.map (wayOf T))) (c+1) []).exec B p 16 0=(match (m.map (wayOf T)).find? (fun b=>!((s.cfg p (s.ways p (m.map (wayOf T))) (c+1) []).ch b.1).nums.isEmpty) with
  | some b=>((s.cfg p (s.ways p (m.map (wayOf T))) (c+1) []).receive b.1).2.follow p b ((s.cfg p (s.ways p (m.map (wayOf T))) (c+1) []).receive b.1).1
  | none=>((m.map (wayOf T)).foldl (fun (s:MS) (b:Int×Int×Int)=>s.setCh b.1 { s.ch b.1 with rd:=some p }) (s.cfg p (s.ways p (m.map (wayOf T))) (c+1) [])).wait p 2):=by
  show (match ((s.cfg p (s.ways p (m.map (wayOf T))) (c+1) []).pr p).opn.find? (fun b=>!((s.cfg p (s.ways p (m.map (wayOf T))) (c+1) []).ch b.1).nums.isEmpty) with
   | some b=>((s.cfg p (s.ways p (m.map (wayOf T))) (c+1) []).receive b.1).2.follow p b ((s.cfg p (s.ways p (m.map (wayOf T))) (c+1) []).receive b.1).1
   | none=>(((s.cfg p (s.ways p (m.map (wayOf T))) (c+1) []).pr p).opn.foldl (fun (s:MS) (b:Int×Int×Int)=>s.setCh b.1 { s.ch b.1 with rd:=some p }) (s.cfg p (s.ways p (m.map (wayOf T))) (c+1) [])).wait p 2)=_
  rw [hpr]
  rfl
 rw [e16]
 generalize hS:s.cfg p (s.ways p (m.map (wayOf T))) (c+1) []=S at *
 have hSl:S.procs.length=s.procs.length:=by rw [<-hS,cfg_len]
 have hU:t.todo p l=t.setPr p { t.pr p with pile:=l }:=rfl
 generalize hUU:t.todo p l=U at *
 rw [<-hU] at ap
 have hUl:U.procs.length=t.procs.length:=by rw [hU,TS.len_set]
 have hUp:U.pr p={ t.pr p with pile:=l }:=by rw [hU];exact TS.pr_self h.cur.lt _
 have hUc:U.chans=t.chans:=by rw [hU];rfl
 have hUu:U.cur=some p:=by rw [hU];exact h.cur.cur
 have hUo:p∉U.urg∧p∉U.oth:=by rw [hU];exact h.cur.out
 have f1:(m.map (wayOf T)).find? (fun b=>!(S.ch b.1).nums.isEmpty)=(m.find? (fun kb=>!(U.ch (T.getD kb.1 default).cd).nums.isEmpty)).map (wayOf T):=by
  rw [List.find?_map]
  congr 1
  congr 1
  funext kb
  show (!(S.ch (T.getD kb.1 default).cd).nums.isEmpty)=_
  rw [ap.ch]
 have f2:(m.map Prod.fst).find? (fun k=>!(U.ch (T.getD k default).cd).nums.isEmpty)=(m.find? (fun kb=>!(U.ch (T.getD kb.1 default).cd).nums.isEmpty)).map Prod.fst:=by rw [List.find?_map];rfl
 unfold TS.reads
 rw [f1,f2]
 cases hf:m.find? (fun kb=>!(U.ch (T.getD kb.1 default).cd).nums.isEmpty) with
 | some kb =>
  dsimp only [Option.map_some]
  have hmem:=List.mem_of_find?_eq_some hf
  have hr:=hrep kb hmem
  have e0:(wayOf T kb).1=(T.getD kb.1 default).cd:=rfl
  have e0':(wayOf T kb).2.1=(T.getD kb.1 default).nd:=rfl
  rw [e0]
  have hcd:=h.inr.cd kb.1
  generalize (T.getD kb.1 default).cd=cd at *
  have hcl:cd.toNat<U.chans.length:=by rw [hUc,h.cl];omega
  have wk:∀ q,((U.setCh cd { U.ch cd with nums:=(U.ch cd).nums.tail }).ch cd).wr=some q->q<U.procs.length∧(U.pr q).told=1∧p≠q:=by
   intro q hq
   rw [ch_set_self hcl] at hq
   have hmc:=ch_mem (t:=U) hcl
   rw [hUc] at hmc
   obtain⟨q1,q2⟩:=(hwr _ hmc).1 q hq
   have hne:=hnp q q2
   refine⟨by rw [hUl];exact q1,?_,hne⟩
   rw [hU,TS.pr_ne t (fun e=>hne e.symm)]
   exact q2
  have rc:=ap.receive cd (fun q hq=>by
   obtain⟨q1,q2,q3⟩:=wk q hq
   exact⟨fun x=>x.elim (fun e=>q3 e.symm) (fun x=>x),q1,q2⟩)
  have rp:=TS.receive_pr (T:=T) U cd (r:=p) wk
  have rs:=MS.receive_pr S cd (r:=p) (fun q hq=>by
   rw [ap.ch,(ap.setCh cd _).ch] at hq
   obtain⟨q1,q2,q3⟩:=wk q hq
   have kq:=ap.pr q q1 (fun x=>x.elim (fun e=>q3 e.symm) (fun x=>x))
   exact⟨by rw [ap.len];exact q1,by rw [kq.told];exact q2,q3⟩)
  rw [rc.1]
  have sim1:=rc.2
  generalize (S.receive cd).2=S1 at *
  generalize (U.receive T cd).2=U1 at *
  generalize (U.receive T cd).1=v at *
  have hp1:p<U1.procs.length:=by rw [rp.2.2,hUl];exact h.cur.lt
  have hps1:p<S1.procs.length:=by rw [sim1.len];exact hp1
  rw [TS.follow_is U1 hp1]
  unfold MS.follow
  rw [e0',rp.1,rs.1,hUp,hpr]
  have u1:SimE T K B (fun i=>i=p∨False) { S1 with vars:=S1.vars.set (T.getD kb.1 default).nd.toNat v } { U1 with vars:=U1.vars.set (T.getD kb.1 default).nd.toNat v }:=by
   rw [sim1.vars]
   exact sim1.setVars _
  refine (u1.setPr (p:=p) (.inl rfl) _ _).close ?_
  rw [MS.pr_self (s:={ S1 with vars:=S1.vars.set (T.getD kb.1 default).nd.toNat v }) hps1,TS.pr_self (t:={ U1 with vars:=U1.vars.set (T.getD kb.1 default).nd.toNat v }) hp1]
  exact⟨kp.above,kp.urg,kp.below,kp.told,fun _ _=>⟨⟨kb.2,rfl,hr⟩,rfl⟩,fun x=>by rw [h.cur.told] at x;cases x⟩
 | none =>
  dsimp only [Option.map_none]
  obtain⟨q1,q2,q3⟩:=rds_sim (E:=fun i=>i=p∨False) (T:=T) (K:=K) (B:=B) p m ap
  generalize (m.map (wayOf T)).foldl (fun (s:MS) (b:Int×Int×Int)=>s.setCh b.1 { s.ch b.1 with rd:=some p }) S=S1 at *
  generalize (m.map Prod.fst).foldl (fun (t:TS) (k:Nat)=>t.setCh (T.getD k default).cd { t.ch (T.getD k default).cd with rd:=some p }) U=U1 at *
  have hp1:p<U1.procs.length:=by rw [q3,hUl];exact h.cur.lt
  have hps1:p<S1.procs.length:=by rw [q1.len];exact hp1
  unfold MS.wait TS.wait
  rw [MS.pr_procs q2,hpr,TS.pr_self hp1,TS.set_set,TS.pr_procs q3,hUp]
  refine ((q1.setPr (p:=p) (.inl rfl) _ _).leave).close ?_
  have e1:∀ x,(S1.setPr p x).leave.pr p=x:=fun x=>MS.pr_self hps1 x
  have e2:∀ y,(U1.setPr p y).leave.pr p=y:=fun y=>TS.pr_self hp1 y
  rw [e1,e2]
  refine⟨kp.above,kp.urg,kp.below,rfl,fun _ x=>absurd rfl x,fun _=>⟨m,rfl,rfl,fun kb hkb=>?_⟩⟩
  exact hrep kb hkb
end
end Go.Proofs.YtnhidaamfnjdjaaGreatDoor
namespace Go.Proofs.YtnhidaamfnjdjaaGreatDoor
open Go.RowKit Go.Maps
section
variable {T : List PNode} {K : List (Int × Int)} {B : List (Int × Int × Int)} {steps : Int} {s : MS} {t : TS} {p i n : Nat} {l : List (Nat × Nat)}
theorem sim_open (h:StepK T K B s t p i n l) {a c:Nat} (ks:List (Nat×Nat)) (hkl:ks.length<900000) (hs:Seg T K B (.opens ks) a c) (hK:K[c]?=some (16,0)) (hB:∀ kj∈ks,∃ ad:Nat,B[kj.2]?=some ((T.getD kj.1 default).cd,(T.getD kj.1 default).nd,(ad:Int))∧Rep T K B (afterR T { t.pr p with pile:=l } kj.1) ad) (hwr:WrOk t) (d:Int) :
  ∃ s',Goes K B steps d (s.cfg p (s.pr p) a []) d s'∧SimM T K B s' (match TS.opens T (t.todo p l).vars (ks.map Prod.fst) with|none=>(t.todo p l).fault|some o=>(t.todo p l).reads T p o):=by
 have e0:s.ways p []=s.pr p:=by
  unfold MS.ways
  rw [<-h.ho]
 have og:=opens_goes (steps:=steps) h d ks a c [] (by simpa using hkl) (fun kj hk=>by
  obtain⟨ad,h1,_⟩:=hB kj hk
  exact (List.getElem?_eq_some_iff.1 h1).1) hs
 rw [e0] at og
 have ev:(t.todo p l).vars=t.vars:=rfl
 rw [ev,opens_L]
 cases hm:openL T t.vars ks with
 | none =>
  rw [hm] at og
  obtain⟨s',q1,q2⟩:=og
  exact⟨s',q1,q2 l⟩
 | some m =>
  rw [hm] at og
  have hsub:=openL_sub t.vars ks m hm
  have hml:m.length≤ks.length:=hsub.length_le
  have hway:m.map (fun kj=>B.getD kj.2 (0,0,0))=(m.map (fun kj=>(kj.1,(B.getD kj.2 (0,0,0)).2.2.toNat))).map (wayOf T):=by
   rw [List.map_map]
   refine List.map_congr_left (fun kj hk=>?_)
   obtain⟨ad,h1,_⟩:=hB kj (hsub.subset hk)
   have e1:B.getD kj.2 (0,0,0)=((T.getD kj.1 default).cd,(T.getD kj.1 default).nd,(ad:Int)):=by rw [List.getD,h1];rfl
   show _=wayOf T (kj.1,(B.getD kj.2 (0,0,0)).2.2.toNat)
   rw [e1]
   rfl
  have hfst:(m.map (fun kj=>(kj.1,(B.getD kj.2 (0,0,0)).2.2.toNat))).map Prod.fst=m.map Prod.fst:=by
   rw [List.map_map]
   rfl
  dsimp only [Option.map_some] at og ⊢
  rw [List.nil_append,hway] at og
  obtain⟨s',q1,q2⟩:=sim_reads (steps:=steps) h hK (m.map (fun kj=>(kj.1,(B.getD kj.2 (0,0,0)).2.2.toNat))) (by rw [List.length_map];omega) (fun kb hkb=>by
   obtain⟨kj,hk,rfl⟩:=List.mem_map.1 hkb
   obtain⟨ad,h1,h2⟩:=hB kj (hsub.subset hk)
   have e1:B.getD kj.2 (0,0,0)=((T.getD kj.1 default).cd,(T.getD kj.1 default).nd,(ad:Int)):=by rw [List.getD,h1];rfl
   rw [e1]
   exact h2) hwr d
  rw [hfst] at q2
  exact⟨s',og.trans q1,q2⟩
theorem sim_read (h:StepK T K B s t p i n l) {a b:Nat} (hs:Seg T K B (.node i) a b) (hr:Rep T K B l b) (hk:(T.getD i default).kind=5) (hwr:WrOk t) (d:Int) :
  ∃ s',Goes K B steps d (s.cfg p (s.pr p) (a+1) []) d s'∧SimM T K B s' (match TS.opens T (t.todo p l).vars [i] with|none=>(t.todo p l).fault|some o=>(t.todo p l).reads T p o):=by
 obtain⟨c,j,rfl,hb,hK,hj⟩:=seg_read hs hk
 refine sim_open (steps:=steps) h [(i,j)] (by simp) (.ocons hb .onil) hK (fun kj hkj=>?_) hwr d
 rw [List.mem_singleton] at hkj
 subst hkj
 refine⟨c+1,hj,?_⟩
 unfold afterR
 rw [if_neg (by rw [hk];decide)]
 exact hr
theorem lands_mem {lv:Nat} (hr:Rep T K B l lv):∀ (ks:List (Nat×Nat)) (a b:Nat),Seg T K B (.lands ks lv) a b->(∀ kj∈ks,(T.getD kj.1 default).kids.length=1)->∀ kj∈ks,∃ ad:Nat,B[kj.2]?=some ((T.getD kj.1 default).cd,(T.getD kj.1 default).nd,(ad:Int))∧Rep T K B (((T.getD kj.1 default).kids.getD 0 0,0) :: l) ad
 | [],_,_,_,_,kj,hk=>by cases hk
 | (k,j) :: ks,a,b,hs,h1,kj,hk=>by
  cases hs with
  | lcons hB hn hJ hrest =>
   rcases List.mem_cons.1 hk with rfl|hk
   ·exact⟨a,hB,.node (seg_below hn (h1 (k,j) (by simp))) (.jump hJ hr)⟩
   ·exact lands_mem hr ks _ _ hrest (fun kj hk=>h1 kj (by simp [hk])) kj hk
theorem zip_fst {α β:Type}:∀ (a:List α) (b:List β),b.length=a.length->(a.zip b).map Prod.fst=a
 | [],_,_=>rfl
 | x :: a,[],h=>by simp at h
 | x :: a,y :: b,h=>by
  have:=zip_fst a b (by simpa using h)
  simp [this]
theorem sim_alt (h:StepK T K B s t p i n l) {a b:Nat} (hs:Seg T K B (.node i) a b) (hr:Rep T K B l b) (hk:(T.getD i default).kind=13) (hwr:WrOk t) (hkl:(T.getD i default).kids.length<900000) (d:Int) :
  ∃ s',Goes K B steps d (s.cfg p (s.pr p) (a+1) []) d s'∧SimM T K B s' (match TS.opens T (t.todo p l).vars (T.getD i default).kids with|none=>(t.todo p l).fault|some o=>(t.todo p l).reads T p o):=by
 obtain⟨c,m,hm,ho,hK,hL⟩:=seg_alt hs hk
 have hz:=zip_fst (T.getD i default).kids m hm
 have kid:∀ kj∈(T.getD i default).kids.zip m,kj.1∈(T.getD i default).kids:=fun kj hk=>(List.of_mem_zip hk).1
 have h14:∀ kj∈(T.getD i default).kids.zip m,(T.getD kj.1 default).kind=14:=fun kj hkj=>(h.wf.ons i h.hi hk _ (kid kj hkj)).1
 have q:=sim_open (steps:=steps) h ((T.getD i default).kids.zip m) (by rw [List.length_zip];omega) ho hK (fun kj hkj=>by
  obtain⟨ad,h1,h2⟩:=lands_mem hr _ _ _ hL (fun kj hkj=>h.wf.one _ (h.wf.up i _ (kid kj hkj)).2 (.inr (.inr (.inl (h14 kj hkj))))) kj hkj
  refine⟨ad,h1,?_⟩
  unfold afterR
  rw [if_pos (h14 kj hkj)]
  exact h2) hwr d
 rw [hz] at q
 exact q
theorem okInR_sim {E:Nat->Prop} (h:SimE T K B E s t) (hE:∀ i,E i->(s.pr i).above=(t.pr i).above) (hdec:∀ i,E i∨¬ E i) (r:InRt t):okInR s=true:=by
 unfold okInR
 simp only [Bool.and_eq_true,List.all_eq_true,Nat.blt_eq]
 rw [h.len,h.urg,h.oth,h.asleep,h.chans,h.cur]
 refine⟨⟨⟨⟨⟨r.urg,r.oth⟩,r.asleep⟩,fun x hx=>⟨okO_of (r.rd x hx),okO_of (r.wr x hx)⟩⟩,okO_of r.cur⟩,fun x hx=>?_⟩
 obtain⟨i,hi,rfl⟩:=List.getElem_of_mem hx
 have hi2:i<t.procs.length:=by rw [<-h.len];exact hi
 have e:s.pr i=s.procs[i]:=by unfold MS.pr;rw [getD_lt _ _ _ hi]
 have ab:(s.pr i).above=(t.pr i).above:=by
  rcases hdec i with x|x
  ·exact hE i x
  ·exact (h.pr i hi2 x).above
 rw [<-e,ab]
 exact okO_of (r.above i hi2)
theorem MS.pr_old (s:MS) (x:PPr) {i:Nat} (h:i<s.procs.length):({ s with procs:=s.procs++[x] }:MS).pr i=s.pr i:=by
 unfold MS.pr
 simp only [List.getD,List.getElem?_append_left h]
theorem MS.pr_new (s:MS) (x:PPr):({ s with procs:=s.procs++[x] }:MS).pr s.procs.length=x:=by
 unfold MS.pr
 simp [List.getD]
theorem TS.pr_old (t:TS) (x:TP) {i:Nat} (h:i<t.procs.length):({ t with procs:=t.procs++[x] }:TS).pr i=t.pr i:=by
 unfold TS.pr
 simp only [List.getD,List.getElem?_append_left h]
theorem TS.pr_new (t:TS) (x:TP):({ t with procs:=t.procs++[x] }:TS).pr t.procs.length=x:=by
 unfold TS.pr
 simp [List.getD]
theorem SimE.begin {E:Nat->Prop} (h:SimE T K B E s t) (hE:E p) {k ad:Nat} (u:Bool) (hr:Rep T K B [(k,0)] ad):SimE T K B E (s.beginNew p (ad:Int) u) (t.beginNew p k u):=by
 have h1:=h.setPr hE { s.pr p with below:=(s.pr p).below+1 } { t.pr p with below:=(t.pr p).below+1 }
 unfold MS.beginNew TS.beginNew
 dsimp only
 generalize hS:s.setPr p { s.pr p with below:=(s.pr p).below+1 }=S at *
 generalize hU:t.setPr p { t.pr p with below:=(t.pr p).below+1 }=U at *
 have hlen:=h1.len
 have h2:SimE T K B (fun i=>i=U.procs.length∨E i) { S with procs:=S.procs++[⟨some p,u,(ad:Int),[],0,0⟩] } { U with procs:=U.procs++[⟨[(k,0)],some p,u,0,[],0,false⟩] }:=by
  refine { h1 with len:=by simp [hlen],pr:=fun i hi hn=>?_ }
  have hi':i<U.procs.length+1:=by simpa using hi
  have hlt:i<U.procs.length:=by
   rcases Nat.lt_or_ge i U.procs.length with x|x
   ·exact x
   ·exact absurd (.inl (by omega)) hn
  rw [MS.pr_old S _ (by rw [hlen];exact hlt),TS.pr_old U _ hlt]
  refine (h1.pr i hlt (fun x=>hn (.inr x))).weak ?_
  rintro (a|a|a|a)
  ·exact .inl a
  ·exact .inr (.inl a)
  ·exact .inr (.inr (.inl a))
  ·rw [TS.pr_old U _ hlt] at a;exact .inr (.inr (.inr a))
 rw [hlen]
 have eS:({ S with procs:=S.procs++[⟨some p,u,(ad:Int),[],0,0⟩] }:MS).pr U.procs.length=⟨some p,u,(ad:Int),[],0,0⟩:=by
  rw [<-hlen]
  exact MS.pr_new S _
 have eU:({ U with procs:=U.procs++[⟨[(k,0)],some p,u,0,[],0,false⟩] }:TS).pr U.procs.length=⟨[(k,0)],some p,u,0,[],0,false⟩:=TS.pr_new U _
 refine h2.goOnX (by simp) ?_ ?_ ?_ ?_ ?_
 ·rw [eS,eU]
 ·rw [eS,eU]
 ·rw [eS,eU]
 ·rw [eS,eU];exact⟨ad,rfl,hr⟩
 ·rw [eS]
end
end Go.Proofs.YtnhidaamfnjdjaaGreatDoor
namespace Go.Proofs.YtnhidaamfnjdjaaGreatDoor
open Go.RowKit Go.Maps
section
variable {T : List PNode} {K : List (Int × Int)} {B : List (Int × Int × Int)} {steps : Int} {s : MS} {t : TS} {p i n : Nat} {l : List (Nat × Nat)}
theorem TS.beginNew_is (t:TS) {p:Nat} (k:Nat) (u:Bool):t.beginNew p k u={ t with procs:=t.procs.set p { t.pr p with below:=(t.pr p).below+1 }++[⟨[(k,0)],some p,u,0,[],0,false⟩],urg:=if u=true then t.urg++[t.procs.length] else t.urg,oth:=if u=true then t.oth else t.oth++[t.procs.length] }:=by
 unfold TS.beginNew
 dsimp only
 have hl:(t.setPr p { t.pr p with below:=(t.pr p).below+1 }).procs.length=t.procs.length:=TS.len_set _ _ _
 rw [TS.goOn_is _ (by simp)]
 rw [TS.pr_new]
 dsimp only
 rw [hl]
 have e:((t.setPr p { t.pr p with below:=(t.pr p).below+1 }).procs++[(⟨[(k,0)],some p,u,0,[],0,false⟩:TP)]).set t.procs.length (⟨[(k,0)],some p,u,0,[],0,false⟩:TP)=(t.setPr p { t.pr p with below:=(t.pr p).below+1 }).procs++[⟨[(k,0)],some p,u,0,[],0,false⟩]:=by
  rw [<-hl,List.set_append_right _ _ (Nat.le_refl _),Nat.sub_self]
  rfl
 rw [e]
 rfl
theorem MS.beginNew_pr (s:MS) {p:Nat} (hp:p<s.procs.length) (a:Int) (u:Bool):(s.beginNew p a u).pr p={ s.pr p with below:=(s.pr p).below+1 }:=by
 have hl:(s.setPr p { s.pr p with below:=(s.pr p).below+1 }).procs.length=s.procs.length:=MS.len_set _ _ _
 unfold MS.beginNew
 dsimp only
 rw [MS.goOn_pr _ (by simp) (by rw [hl];omega),MS.pr_old _ _ (by rw [hl];exact hp),MS.pr_self hp]
theorem TS.beginNew_pr (t:TS) {p:Nat} (hp:p<t.procs.length) (k:Nat) (u:Bool):(t.beginNew p k u).pr p={ t.pr p with below:=(t.pr p).below+1 }:=by
 have hl:(t.setPr p { t.pr p with below:=(t.pr p).below+1 }).procs.length=t.procs.length:=TS.len_set _ _ _
 unfold TS.beginNew
 dsimp only
 rw [TS.goOn_pr _ (by simp) (by rw [hl];omega),TS.pr_old _ _ (by rw [hl];exact hp),TS.pr_self hp]
theorem TS.beginNew_get (t:TS) {p i:Nat} (k:Nat) (u:Bool) (hi:i<t.procs.length+1) (hip:i≠p):(t.beginNew p k u).pr i=if i=t.procs.length then ⟨[(k,0)],some p,u,0,[],0,false⟩ else t.pr i:=by
 rw [TS.beginNew_is]
 generalize hy:({ t.pr p with below:=(t.pr p).below+1 }:TP)=y
 have hl:(t.procs.set p y).length=t.procs.length:=List.length_set
 show ((t.procs.set p y++[(⟨[(k,0)],some p,u,0,[],0,false⟩:TP)]).getD i default)=_
 split
 ·rename_i e
  subst e
  rw [List.getD,<-hl,List.getElem?_append_right (Nat.le_refl _),Nat.sub_self]
  rfl
 ·rename_i e
  rw [List.getD,List.getElem?_append_left (by omega),List.getElem?_set,if_neg (fun x=>hip x.symm)]
  rfl
theorem InRt.begin (r:InRt t) (hp:p<t.procs.length) (k:Nat) (u:Bool):InRt (t.beginNew p k u):=by
 have hlen:(t.beginNew p k u).procs.length=t.procs.length+1:=by rw [TS.beginNew_is];simp
 refine⟨?_,?_,?_,?_,?_,?_,?_⟩
 ·intro i hi
  rw [hlen]
  rw [TS.beginNew_is] at hi
  dsimp only at hi
  split at hi
  ·rcases List.mem_append.1 hi with x|x
   ·have:=r.urg i x;omega
   ·rw [List.mem_singleton] at x;omega
  ·have:=r.urg i hi;omega
 ·intro i hi
  rw [hlen]
  rw [TS.beginNew_is] at hi
  dsimp only at hi
  split at hi
  ·have:=r.oth i hi;omega
  ·rcases List.mem_append.1 hi with x|x
   ·have:=r.oth i x;omega
   ·rw [List.mem_singleton] at x;omega
 ·intro x hx
  rw [hlen]
  rw [TS.beginNew_is] at hx
  have:=r.asleep x hx
  omega
 ·intro x hx q hq
  rw [hlen]
  rw [TS.beginNew_is] at hx
  have:=r.rd x hx q hq
  omega
 ·intro x hx q hq
  rw [hlen]
  rw [TS.beginNew_is] at hx
  have:=r.wr x hx q hq
  omega
 ·intro q hq
  rw [hlen]
  rw [TS.beginNew_is] at hq
  have:=r.cur q hq
  omega
 ·intro i hi q hq
  rw [hlen] at hi ⊢
  by_cases hip:i=p
  ·subst hip
   rw [TS.beginNew_pr t hp] at hq
   have:=r.above i hp q hq
   omega
  ·rw [TS.beginNew_get t k u hi hip] at hq
   split at hq
   ·injection hq with hq
    omega
   ·have:=r.above i (by omega) q hq
    omega
def begU (pri:Bool) (j:Nat) (u:Bool):Bool:=if pri=true∧j=0 then true else u
def begN (pri:Bool) (p:Nat) (ks:List Nat) (t:TS) (m:Nat):TS:=(List.range m).foldl (fun t j=>t.beginNew p (ks.getD j 0) (begU pri j (t.pr p).urg)) t
theorem begN_succ (pri:Bool) (p:Nat) (ks:List Nat) (t:TS) (m:Nat):begN pri p ks t (m+1)=(begN pri p ks t m).beginNew p (ks.getD m 0) (begU pri m ((begN pri p ks t m).pr p).urg):=by
 unfold begN
 rw [List.range_succ,List.foldl_append]
 rfl
theorem beginsT_is (pri:Bool) (t:TS) (p:Nat) (ks:List Nat):TS.begins pri t p ks=begN pri p ks t ks.length:=rfl
structure BegF (p:Nat) (t t':TS) (m:Nat):Prop where
 len:t'.procs.length=t.procs.length+m
 pr:t'.pr p={ t.pr p with below:=(t.pr p).below+m }
 cur:t'.cur=t.cur
 flt:t'.faulty=t.faulty
 inr:InRt t'
 urg:t'.urg.length≤t.urg.length+m
 oth:t'.oth.length≤t.oth.length+m
 chans:t'.chans=t.chans
 vars:t'.vars=t.vars
 out:t'.out=t.out
 asleep:t'.asleep=t.asleep
 fresh:(p∉t.urg->p∉t'.urg)∧(p∉t.oth->p∉t'.oth)
theorem begN_fact (pri:Bool) (ks:List Nat) (hp:p<t.procs.length) (r:InRt t):∀ m,BegF p t (begN pri p ks t m) m
 | 0=>⟨rfl,by show t.pr p=_;simp,rfl,rfl,r,Nat.le_refl _,Nat.le_refl _,rfl,rfl,rfl,rfl,fun x=>x,fun x=>x⟩
 | m+1=>by
  have ih:=begN_fact pri ks hp r m
  rw [begN_succ]
  generalize begN pri p ks t m=U at *
  generalize begU pri m (U.pr p).urg=u
  have hpU:p<U.procs.length:=by rw [ih.len];omega
  have e:=TS.beginNew_is U (p:=p) (ks.getD m 0) u
  refine⟨?_,?_,?_,?_,ih.inr.begin hpU _ _,?_,?_,?_,?_,?_,?_,?_,?_⟩
  ·rw [e];simp;have:=ih.len;omega
  ·rw [TS.beginNew_pr U hpU,ih.pr]
   dsimp only
   congr 1
   push_cast
   omega
  ·rw [e];exact ih.cur
  ·rw [e];exact ih.flt
  ·rw [e]
   have:=ih.urg
   dsimp only
   split
   ·simp;omega
   ·omega
  ·rw [e]
   have:=ih.oth
   dsimp only
   split
   ·omega
   ·simp;omega
  ·rw [e];exact ih.chans
  ·rw [e];exact ih.vars
  ·rw [e];exact ih.out
  ·rw [e];exact ih.asleep
  ·intro x
   have y:=ih.fresh.1 x
   rw [e]
   dsimp only
   split
   ·intro z
    rcases List.mem_append.1 z with z|z
    ·exact y z
    ·rw [List.mem_singleton] at z;omega
   ·exact y
  ·intro x
   have y:=ih.fresh.2 x
   rw [e]
   dsimp only
   split
   ·exact y
   ·intro z
    rcases List.mem_append.1 z with z|z
    ·exact y z
    ·rw [List.mem_singleton] at z;omega
theorem begun_mem:∀ (ks m:List Nat) (a b:Nat),m.length=ks.length->Seg T K B (.begun (ks.zip m)) a b->∀ j,j<ks.length->Rep T K B [(ks.getD j 0,0)] (m.getD j 0)
 | [],_,_,_,_,_,j,hj=>by simp at hj
 | k :: ks,[],_,_,h,_,_,_=>by simp at h
 | k :: ks,x :: m,a,b,h,hs,j,hj=>by
  have hs:Seg T K B (.begun ((k,x) :: ks.zip m)) a b:=hs
  cases hs with
  | bcons hn hK hrest =>
   cases j with
   | zero=>exact .node hn (.done hK)
   | succ j=>exact begun_mem ks m _ _ (by simpa using h) hrest j (by simpa using hj)
theorem okX_begin {nb:Nat} {k v:Int} (hk:k=21∨k=22) (h:(okLens s&&Nat.blt p s.procs.length)=true) (h2:okInR s=true) (hb:okBelow s p=true):okX false nb s p k v=true:=by
 unfold okX
 rw [h,Bool.true_and]
 rcases hk with rfl|rfl
 ·show (okInR s&&okBelow s p)=true
  rw [h2,hb]
  rfl
 ·show (okInR s&&okBelow s p)=true
  rw [h2,hb]
  rfl
theorem beg_goes (h:StepK T K B s t p i n l) {a b:Nat} {m:List Nat} (hm:m.length=(T.getD i default).kids.length) (hK:∀ j,j<m.length->K[a+1+j]?=some ((if (T.getD i default).kind=9∧j=0 then 22 else 21),((m.getD j 0:Nat):Int)))
  (hB:Seg T K B (.begun ((T.getD i default).kids.zip m)) (a+2+m.length) b) (hin:InRt t) (hb0:0≤(t.pr p).below) (hb1:(t.pr p).below+(m.length:Int)<900000000000) (hu:t.urg.length+m.length<900000000000) (ho:t.oth.length+m.length<900000000000) (d:Int) :
  ∀ k,k≤m.length->∃ S,Goes K B steps d (s.cfg p (s.pr p) (a+1) []) d S∧SimE T K B (fun i=>i=p∨False) S (begN (decide ((T.getD i default).kind=9)) p (T.getD i default).kids (t.todo p l) k)∧S.pr p={ s.pr p with at_:=((a+1+k:Nat):Int),below:=(t.pr p).below+k }
 | 0,_=>by
  have kp:=h.cur.sim.pr p h.cur.lt (fun x=>x)
  refine⟨_,Goes.refl _ _,h.cur.sim.apart p (s.pr p) (a+1) { t.pr p with pile:=l },?_⟩
  rw [cfg_pr h.cur.ltS,<-kp.below]
  simp
 | k+1,hk=>by
  obtain⟨S,g,sim,hpr⟩:=beg_goes h hm hK hB hin hb0 hb1 hu ho d k (by omega)
  have hpt:p<(t.todo p l).procs.length:=by rw [TS.todo_len];exact h.cur.lt
  have F:=begN_fact (decide ((T.getD i default).kind=9)) (T.getD i default).kids hpt (hin.todo h.cur.lt l) k
  rw [begN_succ]
  generalize begN (decide ((T.getD i default).kind=9)) p (T.getD i default).kids (t.todo p l) k=U at *
  have hU:=F.len
  have hpU:p<U.procs.length:=by omega
  have hpS:p<S.procs.length:=by rw [sim.len];exact hpU
  have hcS:S.cur=some p:=by rw [sim.cur,F.cur];exact h.cur.cur
  have hfl:U.faulty=false:=by rw [F.flt];exact h.cur.flt
  have hsk:=sim.stack hfl
  have eS:S.cfg p (S.pr p) (a+1+k) []=S:=by
   have:=cfg_self hpS (a:=a+1+k) (by rw [hpr])
   rw [hsk] at this
   exact this
  have hls:=h.cur.lens
  have hlS:Lens S:=by
   have h1:=F.urg
   have h2:=F.oth
   have e1:(t.todo p l).urg=t.urg:=rfl
   have e2:(t.todo p l).oth=t.oth:=rfl
   rw [e1] at h1
   rw [e2] at h2
   refine⟨by rw [sim.urg];omega,by rw [sim.oth];omega,?_,?_,?_,?_⟩
   ·rw [sim.chans,F.chans];have:=hls.2.2.1;rw [h.cur.sim.chans] at this;exact this
   ·rw [sim.vars,F.vars];have:=hls.2.2.2.1;rw [h.cur.sim.vars] at this;exact this
   ·rw [sim.out,F.out];have:=hls.2.2.2.2.1;rw [h.cur.sim.out] at this;exact this
   ·rw [sim.asleep,F.asleep];have:=hls.2.2.2.2.2;rw [h.cur.sim.asleep] at this;exact this
  have sim2:SimE T K B (fun i=>i=p∨False) (S.cfg p (S.pr p) (a+1+k+1) []) U:=by
   have q:=sim.setPr (p:=p) (.inl rfl) { S.pr p with at_:=((a+1+k+1:Nat):Int) } (U.pr p)
   have e0:U.setPr p (U.pr p)=U:=by
    unfold TS.setPr
    have:U.procs.set p (U.pr p)=U.procs:=by
     unfold TS.pr
     rw [getD_lt _ _ _ hpU]
     exact List.set_getElem_self hpU
    rw [this]
   rw [e0] at q
   exact { q with stack:=(fun _=>rfl),stk:=Nat.zero_le _ }
  have hpr2:=cfg_pr hpS (S.pr p) (a+1+k+1) []
  have hrep:=begun_mem (T.getD i default).kids m _ _ hm hB k (by omega)
  have hKk:=hK k (by omega)
  have kd:(if (T.getD i default).kind=9∧k=0 then (22:Int) else 21)=21∨(if (T.getD i default).kind=9∧k=0 then (22:Int) else 21)=22:=by
   split
   ·exact .inr rfl
   ·exact .inl rfl
  have kp:=h.cur.sim.pr p h.cur.lt (fun x=>x)
  have tp:(t.todo p l).pr p={ t.pr p with pile:=l }:=TS.todo_self t h.cur.lt l
  have habv:(S.pr p).above=(U.pr p).above:=by
   rw [hpr,F.pr,tp]
   exact kp.above
  have hin2:okInR (S.cfg p (S.pr p) (a+1+k+1) [])=true:=okInR_sim sim2 (fun i hi=>by
   rcases hi with rfl|hi
   ·rw [hpr2];exact habv
   ·exact hi.elim) (fun i=>by
    by_cases e:i=p
    ·exact .inl (.inl e)
    ·exact .inr (fun x=>x.elim e (fun x=>x))) F.inr
  have hbl:okBelow (S.cfg p (S.pr p) (a+1+k+1) []) p=true:=by
   unfold okBelow
   rw [hpr2,hpr]
   rw [Bool.and_eq_true,decide_eq_true_eq,decide_eq_true_eq]
   have hkm:(k:Int)<(m.length:Int):=by omega
   exact⟨by show 0≤(t.pr p).below+k;omega,by show (t.pr p).below+k<900000000000;omega⟩
  have g2:=goes_one (K:=K) (B:=B) (steps:=steps) (d:=d) (s:=S) (p:=p) (x:=S.pr p) (st:=[]) hcS hpS hlS (by simp) hKk (by omega) (by omega) (by omega) (okX_begin kd (by
   rw [Bool.and_eq_true,Nat.blt_eq]
   exact⟨okLens_of hlS (by simp [MS.cfg]),by rw [cfg_len];exact hpS⟩) hin2 hbl)
  rw [eS,if_neg (by omega)] at g2
  have hurg:(S.pr p).urg=(U.pr p).urg:=by
   rw [hpr,F.pr,tp]
   exact kp.urg
  have ex:(S.cfg p (S.pr p) (a+1+k+1) []).exec B p (if (T.getD i default).kind=9∧k=0 then 22 else 21) ((m.getD k 0:Nat):Int)=(S.cfg p (S.pr p) (a+1+k+1) []).beginNew p ((m.getD k 0:Nat):Int) (begU (decide ((T.getD i default).kind=9)) k (U.pr p).urg):=by
   unfold begU
   by_cases hc:(T.getD i default).kind=9∧k=0
   ·rw [if_pos hc,if_pos ⟨decide_eq_true hc.1,hc.2⟩]
    rfl
   ·rw [if_neg hc,if_neg (fun x=>hc ⟨of_decide_eq_true x.1,x.2⟩)]
    show (S.cfg p (S.pr p) (a+1+k+1) []).beginNew p ((m.getD k 0:Nat):Int) ((S.cfg p (S.pr p) (a+1+k+1) []).pr p).urg=_
    rw [hpr2,<-hurg]
  rw [ex] at g2
  refine⟨_,g.trans g2,sim2.begin (.inl rfl) _ hrep,?_⟩
  rw [MS.beginNew_pr _ (by rw [cfg_len];exact hpS),hpr2,hpr]
  dsimp only
  congr 1
  push_cast
  omega
end
end Go.Proofs.YtnhidaamfnjdjaaGreatDoor
namespace Go.Proofs.YtnhidaamfnjdjaaGreatDoor
open Go.RowKit Go.Maps
section
variable {T : List PNode} {K : List (Int × Int)} {B : List (Int × Int × Int)} {steps : Int} {s : MS} {t : TS} {p i n : Nat} {l : List (Nat × Nat)}
structure SideK (T:List PNode) (t:TS) (p:Nat):Prop where
 rd:∀ c,0≤c->RdOk T t c
 wr:WrOk t
 inr:InRt t
 time0:0≤t.time
 time1:t.time<9000000000000000000
 slept0:0≤t.slept
 slept1:t.slept<1000000000000
 below0:0≤(t.pr p).below
 below1:(t.pr p).below<800000000000
 urg:t.urg.length<800000000000
 oth:t.oth.length<800000000000
theorem sim_beside (h:StepK T K B s t p i n l) {a b:Nat} (hs:Seg T K B (.node i) a b) (hr:Rep T K B l b) (hk:(T.getD i default).kind=8∨(T.getD i default).kind=9) (q:SideK T t p) (hkl:(T.getD i default).kids.length<900000) (d:Int) :
  ∃ s',Goes K B steps d (s.cfg p (s.pr p) (a+1) []) d s'∧SimM T K B s' (if ((TS.begins (decide ((T.getD i default).kind=9)) (t.todo p l) p (T.getD i default).kids).pr p).below > 0 then (TS.begins (decide ((T.getD i default).kind=9)) (t.todo p l) p (T.getD i default).kids).wait p 1 else TS.begins (decide ((T.getD i default).kind=9)) (t.todo p l) p (T.getD i default).kids):=by
 obtain⟨m,hm,hK,hJ,hB⟩:=seg_beside hs hk
 have b0:=q.below0
 have b1:=q.below1
 have u0:=q.urg
 have o0:=q.oth
 obtain⟨S,g,sim,hpr⟩:=beg_goes (steps:=steps) h hm hK hB q.inr b0 (by omega) (by omega) (by omega) d m.length (Nat.le_refl _)
 have hpt:p<(t.todo p l).procs.length:=by rw [TS.todo_len];exact h.cur.lt
 have F:=begN_fact (decide ((T.getD i default).kind=9)) (T.getD i default).kids hpt (q.inr.todo h.cur.lt l) m.length
 rw [beginsT_is,<-hm]
 generalize begN (decide ((T.getD i default).kind=9)) p (T.getD i default).kids (t.todo p l) m.length=U at *
 have hU:=F.len
 have hpU:p<U.procs.length:=by omega
 have hpS:p<S.procs.length:=by rw [sim.len];exact hpU
 have hcS:S.cur=some p:=by rw [sim.cur,F.cur];exact h.cur.cur
 have hcU:U.cur=some p:=by rw [F.cur];exact h.cur.cur
 have hfl:U.faulty=false:=by rw [F.flt];exact h.cur.flt
 have hsk:=sim.stack hfl
 have eS:S.cfg p (S.pr p) (a+1+m.length) []=S:=by
  have:=cfg_self hpS (a:=a+1+m.length) (by rw [hpr])
  rw [hsk] at this
  exact this
 have hls:=h.cur.lens
 have hlS:Lens S:=by
  have h1:=F.urg
  have h2:=F.oth
  have e1:(t.todo p l).urg=t.urg:=rfl
  have e2:(t.todo p l).oth=t.oth:=rfl
  rw [e1] at h1
  rw [e2] at h2
  refine⟨by rw [sim.urg];omega,by rw [sim.oth];omega,?_,?_,?_,?_⟩
  ·rw [sim.chans,F.chans];have:=hls.2.2.1;rw [h.cur.sim.chans] at this;exact this
  ·rw [sim.vars,F.vars];have:=hls.2.2.2.1;rw [h.cur.sim.vars] at this;exact this
  ·rw [sim.out,F.out];have:=hls.2.2.2.2.1;rw [h.cur.sim.out] at this;exact this
  ·rw [sim.asleep,F.asleep];have:=hls.2.2.2.2.2;rw [h.cur.sim.asleep] at this;exact this
 have kp:=h.cur.sim.pr p h.cur.lt (fun x=>x)
 have tp:(t.todo p l).pr p={ t.pr p with pile:=l }:=TS.todo_self t h.cur.lt l
 have g2:=goes_one (K:=K) (B:=B) (steps:=steps) (d:=d) (s:=S) (p:=p) (x:=S.pr p) (st:=[]) hcS hpS hlS (by simp) hJ (by decide) (by decide) (fun x=>absurd x.1 (by decide)) (okX_plain hlS (by simp) hpS (by omega))
 rw [eS,if_neg (by decide)] at g2
 have hjump:(S.cfg p (S.pr p) (a+1+m.length+1) []).jump p b=S.cfg p (S.pr p) b []:=by
  unfold MS.jump
  rw [cfg_pr hpS,cfg_setPr]
  rfl
 have back:SimM T K B (S.cfg p (S.pr p) b []) U:=by
  have q:=sim.setPr (p:=p) (.inl rfl) { S.pr p with at_:=(b:Int) } (U.pr p)
  have e0:U.setPr p (U.pr p)=U:=by
   unfold TS.setPr
   have:U.procs.set p (U.pr p)=U.procs:=by
    unfold TS.pr
    rw [getD_lt _ _ _ hpU]
    exact List.set_getElem_self hpU
   rw [this]
  rw [e0] at q
  have q2:SimE T K B (fun i=>i=p∨False) (S.cfg p (S.pr p) b []) U:={ q with stack:=(fun _=>rfl),stk:=Nat.zero_le _ }
  refine q2.close ?_
  rw [cfg_pr hpS,hpr,F.pr,tp]
  exact⟨kp.above,kp.urg,rfl,kp.told,fun _ _=>⟨⟨b,rfl,hr⟩,h.ho⟩,fun x=>by rw [show ({ ({ t.pr p with pile:=l }:TP) with below:=(t.pr p).below+(m.length:Int) }:TP).told=(t.pr p).told from rfl,h.cur.told] at x;cases x⟩
 have hbel:(S.pr p).below=(U.pr p).below:=by rw [hpr,F.pr,tp]
 have e23:(S.cfg p (S.pr p) (a+1+m.length+1) []).exec B p 23 (b:Int)=if (U.pr p).below > 0 then (S.cfg p (S.pr p) b []).wait p 1 else S.cfg p (S.pr p) b []:=by
  show (if ((S.cfg p (S.pr p) (a+1+m.length+1) []).pr p).below > 0 then ((S.cfg p (S.pr p) (a+1+m.length+1) []).jump p b).wait p 1 else (S.cfg p (S.pr p) (a+1+m.length+1) []).jump p b)=_
  rw [hjump,cfg_pr hpS,<-hbel]
 rw [e23] at g2
 refine⟨_,g.trans g2,?_⟩
 split
 ·refine back.wait1 hpU hcU ?_
  rw [F.pr,tp]
  exact h.cur.told
 ·exact back
theorem sim_step (h:CurK T K B s t p) (wf:WfT T) (inr:InT T n) (vl:t.vars.length=n) (cl:t.chans.length=n) (kl:K.length≤1000000) {i e:Nat} {l:List (Nat×Nat)} (hi:i<T.length) (hpk:procK (T.getD i default).kind) (hpile:(t.pr p).pile=(i,e) :: l)
  (hk:(T.getD i default).kind≠7∧(T.getD i default).kind≠15∧(T.getD i default).kind≠16) (hkl:(T.getD i default).kids.length<900000) (q:SideK T t p) (d:Int) (hd:d<steps):∃ s',Goes K B steps d s (d+1) s'∧SimM T K B s' (t.stepN T p i):=by
 obtain⟨a,b,hs,hr,ho,g,epop⟩:=step_begin (steps:=steps) h hpile hk d hd
 have H:StepK T K B s t p i n l:=⟨h,wf,inr,vl,cl,kl,hi,ho⟩
 have etodo:t.pop p=t.todo p l:=epop
 obtain⟨k1,k2,k3,k4⟩:=hpk
 unfold TS.stepN
 dsimp only
 rw [etodo]
 have fin:∀ t':TS,(∃ s',Goes K B steps (d+1) (s.cfg p (s.pr p) (a+1) []) (d+1) s'∧SimM T K B s' t')->∃ s',Goes K B steps d s (d+1) s'∧SimM T K B s' t':=by
  rintro t' ⟨s',g1,g2⟩
  exact⟨s',g.trans g1,g2⟩
 by_cases h1:(T.getD i default).kind=1
 ·rw [if_pos h1]
  exact⟨_,g,sim_skip H hs hr h1⟩
 rw [if_neg h1]
 by_cases h2:(T.getD i default).kind=2
 ·rw [if_pos h2]
  exact fin _ (sim_stop H hs h2 _)
 rw [if_neg h2]
 by_cases h3:(T.getD i default).kind=3
 ·rw [if_pos h3]
  exact fin _ (sim_becomes H hs hr h3 _)
 rw [if_neg h3]
 by_cases h4:(T.getD i default).kind=4
 ·rw [if_pos h4]
  have hcd:=inr.cd i
  have hmem:=ch_mem (t:=t) (c:=(T.getD i default).cd) (by rw [cl];omega)
  exact fin _ (sim_write H hs hr h4 (q.rd _ hcd.1) (q.wr _ hmem).2 _)
 rw [if_neg h4]
 by_cases h5:(T.getD i default).kind=5
 ·rw [if_pos h5]
  exact fin _ (sim_read H hs hr h5 q.wr _)
 rw [if_neg h5]
 by_cases h6:(T.getD i default).kind=6
 ·rw [if_pos h6]
  exact fin _ (sim_wait H hs hr h6 q.inr q.time0 q.time1 q.slept0 q.slept1 _)
 rw [if_neg h6]
 by_cases h8:(T.getD i default).kind=8∨(T.getD i default).kind=9
 ·rw [if_pos h8]
  exact fin _ (sim_beside H hs hr h8 q hkl _)
 rw [if_neg h8]
 by_cases h10:(T.getD i default).kind=10
 ·rw [if_pos h10]
  exact fin _ (sim_loop H hs hr h10 _)
 rw [if_neg h10]
 by_cases h11:(T.getD i default).kind=11
 ·rw [if_pos h11]
  exact fin _ (sim_choice H hs hr h11 _)
 rw [if_neg h11]
 have h13:(T.getD i default).kind=13:=by omega
 exact fin _ (sim_alt H hs hr h13 q.wr hkl _)
end
end Go.Proofs.YtnhidaamfnjdjaaGreatDoor
namespace Go.Proofs.YtnhidaamfnjdjaaGreatDoor
open Go.RowKit Go.Maps
theorem tSwap_perm (l:List (Int×Int×Nat)) (i j:Nat) (hi:i<l.length) (hj:j<l.length):(slSwap l i j).Perm l:=by
 have h:=Array.swap_perm (xs:=l.toArray) (i:=i) (j:=j) (by simpa using hi) (by simpa using hj)
 rw [Array.perm_iff_toList_perm] at h
 have e:slSwap l i j=(l.toArray.swap i j (by simpa using hi) (by simpa using hj)).toList:=by
  unfold slSwap
  simp [Array.swap,List.getD_eq_getElem?_getD,List.getElem?_eq_getElem hi,List.getElem?_eq_getElem hj]
 rw [e]
 exact h
theorem tDown_perm:∀ (f i n:Nat) (l:List (Int×Int×Nat)),n≤l.length->(downF f i n l).Perm l
 | 0,_,_,l,_=>List.Perm.refl l
 | f+1,i,n,l,h=>by
  unfold downF
  split
  ·exact List.Perm.refl l
  ·rename_i h1
   dsimp only
   generalize hj:(if 2 * i+2<n∧slLess l (2 * i+2) (2 * i+1)=true then 2 * i+2 else 2 * i+1)=j
   have hjn:i<j∧j<n:=by
    rw [<-hj]
    split
    ·rename_i x;exact⟨by omega,x.1⟩
    ·omega
   split
   ·exact List.Perm.refl l
   ·have hp:=tSwap_perm l i j (by omega) (by omega)
    exact (tDown_perm f j n _ (by rw [hp.length_eq];exact h)).trans hp
theorem tUp_perm:∀ (f j:Nat) (l:List (Int×Int×Nat)),j<l.length->(upF f j l).Perm l
 | 0,_,l,_=>List.Perm.refl l
 | f+1,j,l,h=>by
  unfold upF
  split
  ·exact List.Perm.refl l
  ·have hp:=tSwap_perm l ((j - 1) / 2) j (by omega) h
   exact (tUp_perm f _ _ (by rw [hp.length_eq];omega)).trans hp
theorem tPush_perm (x:Int×Int×Nat) (l:List (Int×Int×Nat)):(pushF' x l).Perm (x :: l):=by
 unfold pushF'
 exact (tUp_perm _ _ _ (by simp)).trans (List.perm_append_singleton _ _)
theorem tPop_perm (l:List (Int×Int×Nat)) (n:Nat) (hn:l.length=n+1):((popF l).1 :: (popF l).2).Perm l:=by
 have h1:=tSwap_perm l 0 n (by omega) (by omega)
 have h2:=(tDown_perm l.length 0 n (slSwap l 0 n) (by rw [h1.length_eq];omega)).trans h1
 have e3:popF l=((downF l.length 0 n (slSwap l 0 n)).getD n (0,0,0),(downF l.length 0 n (slSwap l 0 n)).take n):=by
  unfold popF
  rw [hn,Nat.add_sub_cancel]
 rw [e3]
 have hl:=h2.length_eq
 generalize downF l.length 0 n (slSwap l 0 n)=d at *
 refine List.Perm.trans ?_ h2
 have hd:d=d.take n++[d.getD n (0,0,0)]:=by
  conv=>lhs;rw [<-List.take_append_drop n d]
  congr 1
  rw [List.drop_eq_getElem_cons (by omega),List.drop_eq_nil_of_le (by omega),List.getD_eq_getElem?_getD,List.getElem?_eq_getElem (by omega)]
  rfl
 conv=>rhs;rw [hd]
 exact (List.perm_append_singleton _ _).symm
inductive St where
 | run
 | dead
 | sleep
 | wr (c:Nat)
 | rd
 | join
def toldOf:St->Nat
 | .run=>0
 | .dead=>0
 | .sleep=>1
 | .wr _=>1
 | .rd=>2
 | .join=>1
structure PrOk (T:List PNode) (σ:St) (y:TP):Prop where
 told:y.told=toldOf σ
 below:σ≠.join->y.below=0
 pile:∀ kd∈y.pile,kd.1<T.length∧procK (T.getD kd.1 default).kind
 opn:σ=.rd->y.opn.length<900000∧∀ k∈y.opn,k<T.length∧((T.getD k default).kind=5∨(T.getD k default).kind=14)
 fin:y.fin=true->σ=.dead
def TS.que (t:TS):List Nat:=t.cur.toList++t.urg++t.oth
def isKid (q:Nat) (y:TP):Bool:=decide (y.above=some q)&&!y.fin
def TS.chn (t:TS) (c:Nat):PCh:=t.chans.getD c default
structure TInv (T:List PNode) (n:Nat) (st:Nat->St) (t:TS):Prop where
 vl:t.vars.length=n
 cl:t.chans.length=n
 prs:∀ q,q<t.procs.length->PrOk T (st q) (t.pr q)
 nd:t.que.Nodup
 inq:∀ q∈t.que,q<t.procs.length∧st q=.run
 slp:∀ x∈t.asleep,x.2.2<t.procs.length∧st x.2.2=.sleep
 slpN:(t.asleep.map (fun x=>x.2.2)).Nodup
 wr:∀ c q,(t.chn c).wr=some q->q<t.procs.length∧st q=.wr c
 rd:∀ c q,(t.chn c).rd=some q->q<t.procs.length∧st q=.rd∧∃ k∈(t.pr q).opn,(T.getD k default).cd.toNat=c
 above:∀ i,i<t.procs.length->∀ q,(t.pr i).above=some q->q<i
 cnt:∀ q,q<t.procs.length->(t.pr q).below=(t.procs.countP (isKid q):Nat)
def updS (st:Nat->St) (p:Nat) (σ:St):Nat->St:=fun q=>if q=p then σ else st q
theorem updS_self (st:Nat->St) (p:Nat) (σ:St):updS st p σ p=σ:=by unfold updS;rw [if_pos rfl]
theorem updS_ne (st:Nat->St) {p q:Nat} (σ:St) (h:q≠p):updS st p σ q=st q:=by unfold updS;rw [if_neg h]
section
variable {T : List PNode} {n : Nat} {st : Nat → St} {t : TS} {p : Nat}
theorem countP_same (l:List TP) (p:Nat) (y:TP) (q:Nat) (hp:p<l.length) (h:isKid q y=isKid q (l.getD p default)):(l.set p y).countP (isKid q)=l.countP (isKid q):=by
 rw [List.countP_set hp,h]
 have e:l.getD p default=l[p]:=getD_lt _ _ _ hp
 rw [e]
 by_cases hk:isKid q l[p]=true
 ·have:0<l.countP (isKid q):=List.countP_pos_iff.2 ⟨_,List.getElem_mem hp,hk⟩
  rw [if_pos hk]
  omega
 ·rw [if_neg hk]
  omega
theorem TInv.put (h:TInv T n st t) (hp:p<t.procs.length) (σ:St) (y:TP) (hy:PrOk T σ y) (hab:y.above=(t.pr p).above) (hfin:y.fin=(t.pr p).fin) (hbe:y.below=(t.pr p).below) (c':Option Nat) (u' o':List Nat) (hn:(c'.toList++u'++o').Nodup) (hin:∀ q∈c'.toList++u'++o',(q=p∧σ=.run)∨(q≠p∧q∈t.que))
  (hs:∀ x∈t.asleep,x.2.2=p->σ=.sleep) (hw:∀ c,(t.chn c).wr=some p->σ=.wr c) (hr:∀ c,(t.chn c).rd=some p->σ=.rd∧∃ k∈y.opn,(T.getD k default).cd.toNat=c):TInv T n (updS st p σ) { t with procs:=t.procs.set p y,cur:=c',urg:=u',oth:=o' }:=by
 have hlen:(t.procs.set p y).length=t.procs.length:=List.length_set
 have epr:∀ q,({ t with procs:=t.procs.set p y,cur:=c',urg:=u',oth:=o' }:TS).pr q=(t.setPr p y).pr q:=fun q=>rfl
 have es:(t.setPr p y).pr p=y:=TS.pr_self hp y
 have en:∀ q,q≠p->(t.setPr p y).pr q=t.pr q:=fun q hq=>TS.pr_ne t hq y
 refine⟨h.vl,h.cl,?_,hn,?_,?_,h.slpN,?_,?_,?_,?_⟩
 ·intro q hq
  have hq:q<t.procs.length:=by rw [<-hlen];exact hq
  rw [epr]
  by_cases e:q=p
  ·subst e;rw [es,updS_self];exact hy
  ·rw [en q e,updS_ne st σ e];exact h.prs q hq
 ·intro q hq
  show q<(t.procs.set p y).length∧_
  rw [hlen]
  rcases hin q hq with ⟨rfl,rfl⟩|⟨e,hq⟩
  ·exact⟨hp,updS_self ..⟩
  ·rw [updS_ne st σ e];exact h.inq q hq
 ·intro x hx
  show _<(t.procs.set p y).length∧_
  rw [hlen]
  by_cases e:x.2.2=p
  ·rw [e];exact⟨hp,by rw [updS_self];exact hs x hx e⟩
  ·rw [updS_ne st σ e];exact h.slp x hx
 ·intro c q hq
  show _<(t.procs.set p y).length∧_
  rw [hlen]
  have hq:(t.chn c).wr=some q:=hq
  by_cases e:q=p
  ·subst e;exact⟨hp,by rw [updS_self];exact hw c hq⟩
  ·rw [updS_ne st σ e];exact h.wr c q hq
 ·intro c q hq
  show _<(t.procs.set p y).length∧_
  rw [hlen,epr]
  have hq:(t.chn c).rd=some q:=hq
  by_cases e:q=p
  ·subst e;rw [updS_self,es];exact⟨hp,hr c hq⟩
  ·rw [updS_ne st σ e,en q e];exact h.rd c q hq
 ·intro i hi q hq
  have hi2:i<t.procs.length:=by rw [<-hlen];exact hi
  rw [epr] at hq
  by_cases e:i=p
  ·rw [e,es,hab] at hq;rw [e];exact h.above p hp q hq
  ·rw [en i e] at hq;exact h.above i hi2 q hq
 ·intro q hq
  have hq:q<t.procs.length:=by rw [<-hlen];exact hq
  rw [epr]
  show _=(((t.procs.set p y).countP (isKid q):Nat):Int)
  rw [countP_same t.procs p y q hp (by unfold isKid;rw [hab,hfin];rfl),<-h.cnt q hq]
  by_cases e:q=p
  ·subst e;rw [es,hbe]
  ·rw [en q e]
theorem TInv.setCh (h:TInv T n st t) (c:Int) (x:PCh) (hw:∀ q,x.wr=some q->q<t.procs.length∧st q=.wr c.toNat) (hr:∀ q,x.rd=some q->q<t.procs.length∧st q=.rd∧∃ k∈(t.pr q).opn,(T.getD k default).cd.toNat=c.toNat):TInv T n st (t.setCh c x):=by
 have key:∀ d,(t.setCh c x).chn d=x∧d=c.toNat∨(t.setCh c x).chn d=t.chn d:=by
  intro d
  unfold TS.setCh TS.chn
  dsimp only
  simp only [List.getD,List.getElem?_set]
  by_cases e:c.toNat=d
  ·rw [if_pos e]
   by_cases hd:c.toNat<t.chans.length
   ·rw [if_pos hd];exact .inl ⟨rfl,e.symm⟩
   ·rw [if_neg hd]
    right
    rw [List.getElem?_eq_none (by omega)]
  ·rw [if_neg e];exact .inr rfl
 refine⟨h.vl,by show (t.chans.set _ _).length=n;rw [List.length_set];exact h.cl,h.prs,h.nd,h.inq,h.slp,h.slpN,?_,?_,h.above,h.cnt⟩
 ·intro d q hq
  rcases key d with ⟨e,rfl⟩|e
  ·rw [e] at hq;exact hw q hq
  ·rw [e] at hq;exact h.wr d q hq
 ·intro d q hq
  rcases key d with ⟨e,rfl⟩|e
  ·rw [e] at hq;exact hr q hq
  ·rw [e] at hq;exact h.rd d q hq
theorem TInv.setVars (h:TInv T n st t) (i:Nat) (v:Int):TInv T n st { t with vars:=t.vars.set i v }:=⟨by show (t.vars.set i v).length=n;rw [List.length_set];exact h.vl,h.cl,h.prs,h.nd,h.inq,h.slp,h.slpN,h.wr,h.rd,h.above,h.cnt⟩
theorem TInv.setOut (h:TInv T n st t) (o:List Int):TInv T n st { t with out:=o }:=⟨h.vl,h.cl,h.prs,h.nd,h.inq,h.slp,h.slpN,h.wr,h.rd,h.above,h.cnt⟩
theorem TInv.setTime (h:TInv T n st t) (v:Int):TInv T n st { t with time:=v }:=⟨h.vl,h.cl,h.prs,h.nd,h.inq,h.slp,h.slpN,h.wr,h.rd,h.above,h.cnt⟩
theorem TInv.setFlags (h:TInv T n st t) (a b:Bool):TInv T n st { t with ended:=a,faulty:=b }:=⟨h.vl,h.cl,h.prs,h.nd,h.inq,h.slp,h.slpN,h.wr,h.rd,h.above,h.cnt⟩
end
end Go.Proofs.YtnhidaamfnjdjaaGreatDoor
namespace Go.Proofs.YtnhidaamfnjdjaaGreatDoor
open Go.RowKit Go.Maps
section
variable {T : List PNode} {n : Nat} {st : Nat → St} {t : TS} {p q : Nat}
theorem updS_same (st:Nat->St) (p:Nat):updS st p (st p)=st:=by
 funext q
 unfold updS
 split
 ·rename_i e;rw [e]
 ·rfl
theorem TS.set_self (t:TS) {p:Nat} (hp:p<t.procs.length):t.procs.set p (t.pr p)=t.procs:=by
 unfold TS.pr
 rw [getD_lt _ _ _ hp]
 exact List.set_getElem_self hp
theorem TInv.curq (h:TInv T n st t) (hc:t.cur=some p):p<t.procs.length∧st p=.run∧p∉t.urg∧p∉t.oth:=by
 have hm:p∈t.que:=by unfold TS.que;rw [hc];simp
 have h1:=h.inq p hm
 have hn:=h.nd
 unfold TS.que at hn
 rw [hc] at hn
 simp only [Option.toList_some,List.cons_append,List.nil_append,List.nodup_cons,List.mem_append,not_or] at hn
 exact⟨h1.1,h1.2,hn.1.1,hn.1.2⟩
theorem TInv.noS (h:TInv T n st t) (hs:st p≠.sleep):∀ x∈t.asleep,x.2.2≠p:=fun x hx e=>hs (by rw [<-e];exact (h.slp x hx).2)
theorem TInv.noW (h:TInv T n st t) (hs:∀ c,st p≠.wr c):∀ c,(t.chn c).wr≠some p:=fun c e=>hs c (h.wr c p e).2
theorem TInv.noR (h:TInv T n st t) (hs:st p≠.rd):∀ c,(t.chn c).rd≠some p:=fun c e=>hs (h.rd c p e).2.1
theorem TInv.noQ (h:TInv T n st t) (hs:st p≠.run):p∉t.que:=fun e=>hs (h.inq p e).2
theorem TInv.notFin (h:TInv T n st t) (hp:p<t.procs.length) (hs:st p≠.dead):(t.pr p).fin=false:=by
 cases hf:(t.pr p).fin with
 | false=>rfl
 | true=>exact absurd ((h.prs p hp).fin hf) hs
theorem TInv.todo (h:TInv T n st t) (hc:t.cur=some p) (l:List (Nat×Nat)) (hl:∀ kd∈l,kd.1<T.length∧procK (T.getD kd.1 default).kind) (o:List Nat):TInv T n st (t.setPr p { t.pr p with pile:=l,opn:=o }):=by
 obtain⟨hp,hr,_,_⟩:=h.curq hc
 have k:=h.prs p hp
 have:=h.put hp .run { t.pr p with pile:=l,opn:=o } ⟨by rw [hr] at k;exact k.told,fun x=>k.below (by rw [hr];exact x),hl,fun x=>(by cases x),fun x=>absurd (k.fin x) (by rw [hr];simp)⟩ rfl rfl rfl t.cur t.urg t.oth h.nd
  (fun q hq=>by
   by_cases e:q=p
   ·exact .inl ⟨e,rfl⟩
   ·exact .inr ⟨e,hq⟩)
  (fun x hx e=>absurd e (h.noS (by rw [hr];simp) x hx)) (fun c e=>absurd e (h.noW (fun c=>by rw [hr];simp) c)) (fun c e=>absurd e (h.noR (by rw [hr];simp) c))
 rw [<-hr,updS_same] at this
 exact this
theorem que_none (h:t.cur=some p):∀ q∈(none:Option Nat).toList++t.urg++t.oth,q∈t.que:=by
 intro q hq
 unfold TS.que
 rw [h]
 simp at hq ⊢
 exact .inr hq
theorem nd_none (h:t.que.Nodup) (hc:t.cur=some p):((none:Option Nat).toList++t.urg++t.oth).Nodup:=by
 unfold TS.que at h
 rw [hc] at h
 simp at h ⊢
 exact h.2
theorem TInv.stays (h:TInv T n st t) (hc:t.cur=some p) (σ:St) (y:TP) (hy:PrOk T σ y) (hab:y.above=(t.pr p).above) (hfin:y.fin=(t.pr p).fin) (hbe:y.below=(t.pr p).below):TInv T n (updS st p σ) (t.setPr p y).leave:=by
 obtain⟨hp,hr,h1,h2⟩:=h.curq hc
 exact h.put hp σ y hy hab hfin hbe none t.urg t.oth (nd_none h.nd hc)
  (fun q hq=>.inr ⟨by
   rintro rfl
   simp at hq
   exact hq.elim h1 h2,que_none hc q hq⟩)
  (fun x hx e=>absurd e (h.noS (by rw [hr];simp) x hx)) (fun c e=>absurd e (h.noW (fun c=>by rw [hr];simp) c)) (fun c e=>absurd e (h.noR (by rw [hr];simp) c))
theorem TInv.leave (h:TInv T n st t) (hc:t.cur=some p):TInv T n (updS st p .dead) t.leave:=by
 obtain⟨hp,hr,_,_⟩:=h.curq hc
 have k:=h.prs p hp
 rw [hr] at k
 have:=h.stays hc .dead (t.pr p) ⟨k.told,fun _=>k.below (by simp),k.pile,fun x=>(by cases x),fun _=>rfl⟩ rfl rfl rfl
 have e:(t.setPr p (t.pr p)).leave=t.leave:=by unfold TS.setPr;rw [TS.set_self t hp]
 rw [e] at this
 exact this
theorem TInv.fault (h:TInv T n st t) (hc:t.cur=some p):TInv T n (updS st p .dead) t.fault:=(h.leave hc).setFlags t.ended true
theorem TInv.wait1 (h:TInv T n st t) (hc:t.cur=some p) (σ:St) (hσ:toldOf σ=1):TInv T n (updS st p σ) (t.wait p 1):=by
 obtain⟨hp,hr,_,_⟩:=h.curq hc
 have k:=h.prs p hp
 rw [hr] at k
 exact h.stays hc σ { t.pr p with told:=1 } ⟨hσ.symm,fun _=>k.below (by simp),k.pile,fun x=>(by subst x;cases hσ),fun x=>absurd (k.fin x) (by simp)⟩ rfl rfl rfl
theorem TInv.goOn (h:TInv T n st t) (hq:q<t.procs.length) (h1:st q≠.run) (h2:st q≠.dead) (hb:(t.pr q).below=0) (ns:∀ x∈t.asleep,x.2.2≠q) (nw:∀ c,(t.chn c).wr≠some q) (nr:∀ c,(t.chn c).rd≠some q):TInv T n (updS st q .run) (t.goOn q):=by
 have k:=h.prs q hq
 have hnq:=h.noQ h1
 have hy:PrOk T .run { t.pr q with told:=0 }:=⟨rfl,fun _=>hb,k.pile,fun x=>(by cases x),fun x=>absurd x (by rw [show ({ t.pr q with told:=0 }:TP).fin=(t.pr q).fin from rfl,h.notFin hq h2];simp)⟩
 rw [TS.goOn_is t hq]
 refine h.put hq .run _ hy rfl rfl rfl t.cur _ _ ?_ ?_ (fun x hx e=>absurd e (ns x hx)) (fun c e=>absurd e (nw c)) (fun c e=>absurd e (nr c))
 ·have hp:(q :: t.que).Nodup:=List.nodup_cons.2 ⟨hnq,h.nd⟩
  by_cases hu:(t.pr q).urg=true
  ·rw [if_pos hu,if_pos hu]
   refine (List.Perm.nodup_iff ?_).1 hp
   unfold TS.que
   have:(t.cur.toList++(t.urg++[q])++t.oth)=(t.cur.toList++t.urg)++q :: t.oth:=by simp
   rw [this]
   exact List.perm_middle.symm
  ·rw [if_neg hu,if_neg hu]
   refine (List.Perm.nodup_iff ?_).1 hp
   unfold TS.que
   have:(t.cur.toList++t.urg++(t.oth++[q]))=(t.cur.toList++t.urg++t.oth)++q :: []:=by simp
   rw [this]
   have:=(List.perm_middle (a:=q) (l₁:=t.cur.toList++t.urg++t.oth) (l₂:=[]))
   simpa using this.symm
 ·intro r hr
  have hr:r=q∨r∈t.que:=by
   unfold TS.que
   by_cases hu:(t.pr q).urg=true
   ·rw [if_pos hu,if_pos hu] at hr
    simp at hr ⊢
    rcases hr with x|x|x|x
    ·exact .inr (.inl x)
    ·exact .inr (.inr (.inl x))
    ·exact .inl x
    ·exact .inr (.inr (.inr x))
   ·rw [if_neg hu,if_neg hu] at hr
    simp at hr ⊢
    rcases hr with x|x|x|x
    ·exact .inr (.inl x)
    ·exact .inr (.inr (.inl x))
    ·exact .inr (.inr (.inr x))
    ·exact .inl x
  rcases hr with rfl|hr
  ·exact .inl ⟨rfl,rfl⟩
  ·exact .inr ⟨fun e=>hnq (e ▸ hr),hr⟩
theorem TInv.setSleep (h:TInv T n st t) (l:List (Int×Int×Nat)) (k:Int) (h1:∀ x∈l,x.2.2<t.procs.length∧st x.2.2=.sleep) (h2:(l.map (fun x=>x.2.2)).Nodup):TInv T n st { t with asleep:=l,slept:=k }:=⟨h.vl,h.cl,h.prs,h.nd,h.inq,h1,h2,h.wr,h.rd,h.above,h.cnt⟩
theorem TInv.setChans (h:TInv T n st t) (cs:List PCh) (hl:cs.length=n) (hw:∀ c q,(cs.getD c default).wr=some q->q<t.procs.length∧st q=.wr c) (hr:∀ c q,(cs.getD c default).rd=some q->q<t.procs.length∧st q=.rd∧∃ k∈(t.pr q).opn,(T.getD k default).cd.toNat=c):TInv T n st { t with chans:=cs }:=⟨h.vl,hl,h.prs,h.nd,h.inq,h.slp,h.slpN,hw,hr,h.above,h.cnt⟩
theorem chn_setCh (t:TS) (c:Int) (x:PCh) (d:Nat):(t.setCh c x).chn d=if d=c.toNat∧c.toNat<t.chans.length then x else t.chn d:=by
 unfold TS.setCh TS.chn
 dsimp only
 simp only [List.getD,List.getElem?_set]
 by_cases e:c.toNat=d
 ·rw [if_pos e]
  by_cases hd:c.toNat<t.chans.length
  ·rw [if_pos hd,if_pos ⟨e.symm,hd⟩];rfl
  ·rw [if_neg hd,if_neg (fun x=>hd x.2)]
   rw [List.getElem?_eq_none (by omega)]
 ·rw [if_neg e,if_neg (fun x=>e x.1.symm)]
theorem ch_chn (t:TS) (c:Int):t.ch c=t.chn c.toNat:=rfl
theorem unreads_inv:∀ (o:List Nat) {t:TS},TInv T n st t->TInv T n st (o.foldl (TS.unread T) t)∧(o.foldl (TS.unread T) t).procs=t.procs∧(∀ c,((o.foldl (TS.unread T) t).chn c).rd=(t.chn c).rd∨((o.foldl (TS.unread T) t).chn c).rd=none)∧(∀ k∈o,(T.getD k default).cd.toNat<n->((o.foldl (TS.unread T) t).chn (T.getD k default).cd.toNat).rd=none)
 | [],t,h=>⟨h,rfl,fun _=>.inl rfl,fun k hk=>by cases hk⟩
 | k :: o,t,h=>by
  have h1:TInv T n st (TS.unread T t k):=by
   unfold TS.unread
   refine h.setCh _ _ (fun q hq=>?_) (fun q hq=>by cases hq)
   exact h.wr _ q hq
  obtain⟨a,b,c,d⟩:=unreads_inv o h1
  have hcl:=h.cl
  rw [List.foldl_cons]
  refine⟨a,b,fun e=>?_,fun k' hk' hlt=>?_⟩
  ·rcases c e with x|x
   ·rw [x]
    unfold TS.unread
    rw [chn_setCh]
    split
    ·exact .inr rfl
    ·exact .inl rfl
   ·exact .inr x
  ·rcases List.mem_cons.1 hk' with rfl|hk'
   ·rcases c (T.getD k' default).cd.toNat with x|x
    ·rw [x]
     unfold TS.unread
     rw [chn_setCh,if_pos ⟨rfl,by omega⟩]
    ·exact x
   ·exact d k' hk' hlt
theorem TInv.hasRead (wf:WfT T) (hcd:∀ k,(T.getD k default).cd.toNat<n) (h:TInv T n st t) (hq:q<t.procs.length) (hst:st q=.rd) (c v:Int):TInv T n (updS st q .run) (t.hasRead T q c v):=by
 have k:=h.prs q hq
 obtain⟨u1,u2,u3,u4⟩:=unreads_inv (T:=T) (t.pr q).opn h
 have hnr:∀ d,(((t.pr q).opn.foldl (TS.unread T) t).chn d).rd≠some q:=by
  intro d e
  rcases u3 d with x|x
  ·rw [x] at e
   obtain⟨_,_,k0,hk0,e0⟩:=h.rd d q e
   have:=u4 k0 hk0 (hcd k0)
   rw [e0,x,e] at this
   cases this
  ·rw [x] at e;cases e
 unfold TS.hasRead
 dsimp only
 have hok:=(k.opn hst).2
 generalize (t.pr q).opn.foldl (TS.unread T) t=t1 at *
 have hq1:q<t1.procs.length:=by rw [u2];exact hq
 have k1:=u1.prs q hq1
 rw [hst] at k1
 have e1:t1.pr q=t.pr q:=TS.pr_procs u2 q
 have fin:∀ t2,TInv T n st t2->t2.procs.length=t1.procs.length->t2.asleep=t1.asleep->t2.chans=t1.chans->(t2.pr q).below=0->TInv T n (updS st q .run) (t2.goOn q):=by
  intro t2 h2 hl ha hc hb
  refine h2.goOn (by rw [hl];exact hq1) (by rw [hst];simp) (by rw [hst];simp) hb (h2.noS (by rw [hst];simp)) (h2.noW (fun c=>by rw [hst];simp)) (fun d=>?_)
  unfold TS.chn
  rw [hc]
  exact hnr d
 split
 ·rename_i k0 hf
  have hmem:=List.mem_of_find?_eq_some hf
  obtain⟨hk0,hkk⟩:=hok k0 hmem
  rw [TS.follow_is t1 hq1]
  refine fin _ ?_ (TS.len_set _ _ _) rfl rfl (by rw [TS.pr_self (t:={ t1 with vars:=t1.vars.set (T.getD k0 default).nd.toNat v }) hq1];exact k1.below (by simp))
  have hv:=u1.setVars (T.getD k0 default).nd.toNat v
  have hpile:∀ kd∈afterR T (t1.pr q) k0,kd.1<T.length∧procK (T.getD kd.1 default).kind:=by
   intro kd hkd
   unfold afterR at hkd
   split at hkd
   ·rename_i h14
    rcases List.mem_cons.1 hkd with rfl|hkd
    ·have one:=wf.one k0 hk0 (.inr (.inr (.inl h14)))
     have hm:(T.getD k0 default).kids.getD 0 0∈(T.getD k0 default).kids:=by
      rw [getD_lt (T.getD k0 default).kids 0 0 (by omega)]
      exact List.getElem_mem _
     exact⟨(wf.up k0 _ hm).2,wf.kids k0 hk0 (by omega) (by omega) _ hm⟩
    ·exact k1.pile kd hkd
   ·exact k1.pile kd hkd
  have:=hv.put (p:=q) hq1 .rd { t1.pr q with opn:=[],pile:=afterR T (t1.pr q) k0 } ⟨k1.told,k1.below,hpile,fun _=>⟨by simp,fun k hk=>by cases hk⟩,k1.fin⟩ rfl rfl rfl t1.cur t1.urg t1.oth u1.nd
   (fun r hr=>.inr ⟨by
    rintro rfl
    exact u1.noQ (by rw [hst];simp) hr,hr⟩)
   (fun x hx e=>absurd e (u1.noS (by rw [hst];simp) x hx)) (fun c e=>absurd e (u1.noW (fun c=>by rw [hst];simp) c)) (fun c e=>absurd e (hnr c))
  rw [<-hst,updS_same] at this
  exact this
 ·exact fin t1 u1 rfl rfl rfl (k1.below (by simp))
theorem TInv.send (wf:WfT T) (hcd:∀ k,(T.getD k default).cd.toNat<n) (h:TInv T n st t) (c v:Int):∃ st',TInv T n st' (t.send T c v).2∧((t.send T c v).1=false->st'=st)∧(∀ r,st r≠.rd->st' r=st r):=by
 unfold TS.send
 rw [ch_chn]
 cases hq:(t.chn c.toNat).rd with
 | none =>
  refine⟨st,h.setCh c _ (fun q hw=>h.wr _ q hw) (fun q hr=>?_),fun _=>rfl,fun _ _=>rfl⟩
  have hr:(t.chn c.toNat).rd=some q:=hr
  rw [hq] at hr
  cases hr
 | some q =>
  obtain⟨h1,h2,_⟩:=h.rd _ q hq
  have k:=(h.prs q h1).told
  rw [h2] at k
  have k:(t.pr q).told=2:=k
  dsimp only
  unfold TS.tell
  rw [if_pos k]
  refine⟨_,h.hasRead wf hcd h1 h2 c v,fun x=>(by cases x),fun r hr=>?_⟩
  by_cases e:r=q
  ·subst e;exact absurd h2 hr
  ·exact updS_ne _ _ e
theorem TInv.receive (h:TInv T n st t) (c:Int) (hc:c.toNat<n):∃ st',TInv T n st' (t.receive T c).2∧(∀ r,(∀ d,st r≠.wr d)->st' r=st r):=by
 have hcl:c.toNat<t.chans.length:=by rw [h.cl];exact hc
 have h1:TInv T n st (t.setCh c { t.ch c with nums:=(t.ch c).nums.tail }):=h.setCh c _ (fun q hw=>h.wr _ q hw) (fun q hr=>h.rd _ q hr)
 have hl1:(t.setCh c { t.ch c with nums:=(t.ch c).nums.tail }).chans.length=n:=h1.cl
 have e1:((t.setCh c { t.ch c with nums:=(t.ch c).nums.tail }).ch c).wr=(t.ch c).wr:=by rw [ch_set_self hcl]
 have e2:(t.setCh c { t.ch c with nums:=(t.ch c).nums.tail }).procs=t.procs:=rfl
 unfold TS.receive
 dsimp only
 dsimp only at h1 hl1 e1 e2
 generalize t.setCh c { nums:=(t.ch c).nums.tail,rd:=(t.ch c).rd,wr:=(t.ch c).wr }=t1 at *
 split
 ·exact⟨st,h1,fun _ _=>rfl⟩
 ·rename_i q hq
  obtain⟨q1,q2⟩:=h1.wr c.toNat q hq
  have h2:=h1.setCh c { t1.ch c with wr:=none } (fun q hw=>by cases hw) (fun q hr=>h1.rd _ q hr)
  have nw:∀ d,((t1.setCh c { t1.ch c with wr:=none }).chn d).wr≠some q:=by
   intro d e
   obtain⟨_,e2⟩:=h2.wr d q e
   rw [q2] at e2
   injection e2 with e2
   subst e2
   rw [chn_setCh,if_pos ⟨rfl,by omega⟩] at e
   cases e
  have k:=h1.prs q q1
  rw [q2] at k
  refine⟨updS st q .run,?_,fun r hr=>updS_ne _ _ (by rintro rfl;exact hr _ q2)⟩
  have hto:((t1.setCh c { t1.ch c with wr:=none }).pr q).told=1:=k.told
  show TInv T n (updS st q .run) ((t1.setCh c { t1.ch c with wr:=none }).tell T q 0 0)
  unfold TS.tell
  rw [if_neg (by rw [hto];decide)]
  exact h2.goOn q1 (by rw [q2];simp) (by rw [q2];simp) (k.below (by simp)) (h2.noS (by rw [q2];simp)) nw (h2.noR (by rw [q2];simp))
end
end Go.Proofs.YtnhidaamfnjdjaaGreatDoor
namespace Go.Proofs.YtnhidaamfnjdjaaGreatDoor
open Go.RowKit Go.Maps
section
variable {T : List PNode} {n : Nat} {st : Nat → St} {t : TS} {p q : Nat}
def rdsF (T:List PNode) (p:Nat) (l:List Nat) (t:TS):TS:=l.foldl (fun (t:TS) (k:Nat)=>t.setCh (T.getD k default).cd { t.ch (T.getD k default).cd with rd:=some p }) t
theorem rdsF_is:∀ (l:List Nat) (t:TS),rdsF T p l t={ t with chans:=(rdsF T p l t).chans }∧(rdsF T p l t).chans.length=t.chans.length∧∀ c,((rdsF T p l t).chn c).wr=(t.chn c).wr∧((rdsF T p l t).chn c).nums=(t.chn c).nums∧(((rdsF T p l t).chn c).rd=(t.chn c).rd∨((rdsF T p l t).chn c).rd=some p∧∃ k∈l,(T.getD k default).cd.toNat=c)
 | [],t=>⟨rfl,rfl,fun c=>⟨rfl,rfl,.inl rfl⟩⟩
 | k :: l,t=>by
  have e:rdsF T p (k :: l) t=rdsF T p l (t.setCh (T.getD k default).cd { t.ch (T.getD k default).cd with rd:=some p }):=rfl
  obtain⟨h1,h2,h3⟩:=rdsF_is l (t.setCh (T.getD k default).cd { t.ch (T.getD k default).cd with rd:=some p })
  rw [<-e] at h1 h2 h3
  refine⟨h1,?_,fun c=>?_⟩
  ·rw [h2]
   exact List.length_set
  ·obtain⟨a,b,d⟩:=h3 c
   rw [chn_setCh] at a b d
   by_cases hc:c=(T.getD k default).cd.toNat∧(T.getD k default).cd.toNat<t.chans.length
   ·rw [if_pos hc] at a b d
    refine⟨?_,?_,?_⟩
    ·rw [a,hc.1];rfl
    ·rw [b,hc.1];rfl
    ·rcases d with d|⟨d,k',hk',e'⟩
     ·exact .inr ⟨d,k,by simp,hc.1.symm⟩
     ·exact .inr ⟨d,k',by simp [hk'],e'⟩
   ·rw [if_neg hc] at a b d
    refine⟨a,b,?_⟩
    rcases d with d|⟨d,k',hk',e'⟩
    ·exact .inl d
    ·exact .inr ⟨d,k',by simp [hk'],e'⟩
theorem TInv.woken (h:TInv T n st t) {c:Int} (hc:t.cur=some p):∀ q,((t.setCh c { t.ch c with nums:=(t.ch c).nums.tail }).ch c).wr=some q->q<t.procs.length∧(t.pr q).told=1∧p≠q:=by
 obtain⟨_,hr,_,_⟩:=h.curq hc
 intro q hq
 have h1:TInv T n st (t.setCh c { t.ch c with nums:=(t.ch c).nums.tail }):=h.setCh c _ (fun q hw=>h.wr _ q hw) (fun q hr=>h.rd _ q hr)
 obtain⟨a,b⟩:=h1.wr c.toNat q hq
 have k:=h.prs q a
 rw [b] at k
 refine⟨a,k.told,?_⟩
 rintro rfl
 rw [hr] at b
 cases b
theorem TInv.reads (wf:WfT T) (hcd:∀ k,(T.getD k default).cd.toNat<n) (h:TInv T n st t) (hc:t.cur=some p) (l:List Nat) (hl:l.length<900000) (hk:∀ k∈l,k<T.length∧((T.getD k default).kind=5∨(T.getD k default).kind=14)):∃ st',TInv T n st' (t.reads T p l):=by
 obtain⟨hp,hr,_,_⟩:=h.curq hc
 unfold TS.reads
 cases hf:l.find? (fun k=>!(t.ch (T.getD k default).cd).nums.isEmpty) with
 | some k =>
  have hmem:=List.mem_of_find?_eq_some hf
  obtain⟨hk0,hkk⟩:=hk k hmem
  dsimp only
  obtain⟨st',h1,h2⟩:=h.receive (T:=T) (T.getD k default).cd (hcd k)
  have rp:=TS.receive_pr (T:=T) t (T.getD k default).cd (r:=p) (h.woken hc)
  generalize (t.receive T (T.getD k default).cd).1=v
  generalize (t.receive T (T.getD k default).cd).2=t1 at *
  have hc1:t1.cur=some p:=rp.2.1.trans hc
  have hp1:p<t1.procs.length:=by rw [rp.2.2];exact hp
  rw [TS.follow_is t1 hp1]
  have hpile:∀ kd∈afterR T (t1.pr p) k,kd.1<T.length∧procK (T.getD kd.1 default).kind:=by
   intro kd hkd
   unfold afterR at hkd
   split at hkd
   ·rename_i h14
    rcases List.mem_cons.1 hkd with rfl|hkd
    ·have one:=wf.one k hk0 (.inr (.inr (.inl h14)))
     have hm:(T.getD k default).kids.getD 0 0∈(T.getD k default).kids:=by
      rw [getD_lt (T.getD k default).kids 0 0 (by omega)]
      exact List.getElem_mem _
     exact⟨(wf.up k _ hm).2,wf.kids k hk0 (by omega) (by omega) _ hm⟩
    ·exact (h1.prs p hp1).pile kd hkd
   ·exact (h1.prs p hp1).pile kd hkd
  exact⟨st',(h1.setVars (T.getD k default).nd.toNat v).todo (p:=p) hc1 _ hpile []⟩
 | none =>
  dsimp only
  have e0:l.foldl (fun (t:TS) (k:Nat)=>t.setCh (T.getD k default).cd { t.ch (T.getD k default).cd with rd:=some p }) t=rdsF T p l t:=rfl
  rw [e0]
  obtain⟨e1,e2,e3⟩:=rdsF_is (T:=T) (p:=p) l t
  have k:=h.prs p hp
  rw [hr] at k
  have s1:=h.stays hc .rd { t.pr p with opn:=l,told:=2 } ⟨rfl,fun _=>k.below (by simp),k.pile,fun _=>⟨hl,hk⟩,fun x=>absurd (k.fin x) (by simp)⟩ rfl rfl rfl
  have epp:(rdsF T p l t).pr p=t.pr p:=by rw [e1];rfl
  have s2:=s1.setChans (rdsF T p l t).chans (e2.trans h.cl) (fun c q hq=>by
    have hq:((rdsF T p l t).chn c).wr=some q:=hq
    rw [(e3 c).1] at hq
    obtain⟨a,b⟩:=h.wr c q hq
    have hqp:q≠p:=by
     rintro rfl
     rw [hr] at b
     cases b
    refine⟨by show q<(t.setPr p _).procs.length;rw [TS.len_set];exact a,?_⟩
    rw [updS_ne _ _ hqp]
    exact b) (fun c q hq=>by
    have hq:((rdsF T p l t).chn c).rd=some q:=hq
    rcases (e3 c).2.2 with d|⟨d,k',hk',e'⟩
    ·rw [d] at hq
     obtain⟨a,b,k0,hk0,e0⟩:=h.rd c q hq
     have hqp:q≠p:=by
      rintro rfl
      rw [hr] at b
      cases b
     refine⟨by show q<(t.setPr p _).procs.length;rw [TS.len_set];exact a,by rw [updS_ne _ _ hqp];exact b,k0,?_,e0⟩
     have en:(t.setPr p { t.pr p with opn:=l,told:=2 }).leave.pr q=t.pr q:=TS.pr_ne t hqp _
     rw [en]
     exact hk0
    ·rw [d] at hq
     injection hq with hq
     subst hq
     refine⟨by show p<(t.setPr p _).procs.length;rw [TS.len_set];exact hp,updS_self ..,k',?_,e'⟩
     have en:(t.setPr p { t.pr p with opn:=l,told:=2 }).leave.pr p={ t.pr p with opn:=l,told:=2 }:=TS.pr_self hp _
     rw [en]
     exact hk')
  refine⟨_,cast (congrArg (TInv T n (updS st p .rd)) ?_) s2⟩
  generalize hcs:(rdsF T p l t).chans=cs at *
  rw [e1]
  unfold TS.wait
  have hp2:p<({ t with chans:=cs }:TS).procs.length:=hp
  rw [TS.pr_self hp2,TS.set_set]
  rfl
theorem TInv.begin (h:TInv T n st t) (hp:p<t.procs.length) (hst:st p=.join) (k:Nat) (hk:k<T.length∧procK (T.getD k default).kind) (u:Bool):TInv T n (updS st t.procs.length .run) (t.beginNew p k u)∧updS st t.procs.length .run p=.join:=by
 have hnp:p≠t.procs.length:=by omega
 refine⟨?_,by rw [updS_ne _ _ hnp];exact hst⟩
 have e:=TS.beginNew_is t (p:=p) k u
 have hlen:(t.beginNew p k u).procs.length=t.procs.length+1:=by rw [e];simp
 have hself:=TS.beginNew_pr t hp k u
 have hget:∀ i,i<t.procs.length+1->i≠p->_:=fun i hi hip=>TS.beginNew_get t k u hi hip
 have hold:∀ r,r<t.procs.length->r≠t.procs.length:=fun r hr=>by omega
 have kp:=h.prs p hp
 refine⟨by rw [e];exact h.vl,by rw [e];exact h.cl,?_,?_,?_,?_,by rw [e];exact h.slpN,?_,?_,?_,?_⟩
 ·intro r hr
  rw [hlen] at hr
  by_cases hrp:r=p
  ·subst hrp
   rw [hself,updS_ne _ _ hnp]
   rw [hst] at kp ⊢
   exact⟨kp.told,fun x=>absurd rfl x,kp.pile,fun x=>(by cases x),kp.fin⟩
  ·rw [hget r hr hrp]
   split
   ·rename_i x
    rw [x,updS_self]
    exact⟨rfl,fun _=>rfl,fun kd hkd=>by rw [List.mem_singleton] at hkd;subst hkd;exact hk,fun x=>(by cases x),fun x=>(by cases x)⟩
   ·rename_i x
    rw [updS_ne _ _ x]
    exact h.prs r (by omega)
 ·rw [e]
  show (t.cur.toList++(if u=true then t.urg++[t.procs.length] else t.urg)++(if u=true then t.oth else t.oth++[t.procs.length])).Nodup
  have hnq:t.procs.length∉t.que:=fun x=>by have:=(h.inq _ x).1;omega
  have hpn:(t.procs.length :: t.que).Nodup:=List.nodup_cons.2 ⟨hnq,h.nd⟩
  by_cases hu:u=true
  ·rw [if_pos hu,if_pos hu]
   refine (List.Perm.nodup_iff ?_).1 hpn
   unfold TS.que
   have:(t.cur.toList++(t.urg++[t.procs.length])++t.oth)=(t.cur.toList++t.urg)++t.procs.length :: t.oth:=by simp
   rw [this]
   exact List.perm_middle.symm
  ·rw [if_neg hu,if_neg hu]
   refine (List.Perm.nodup_iff ?_).1 hpn
   unfold TS.que
   have:(t.cur.toList++t.urg++(t.oth++[t.procs.length]))=(t.cur.toList++t.urg++t.oth)++t.procs.length :: []:=by simp
   rw [this]
   have:=(List.perm_middle (a:=t.procs.length) (l₁:=t.cur.toList++t.urg++t.oth) (l₂:=[]))
   simpa using this.symm
 ·intro r hr
  rw [hlen]
  have hr:r=t.procs.length∨r∈t.que:=by
   rw [e] at hr
   have hr:r∈t.cur.toList++(if u=true then t.urg++[t.procs.length] else t.urg)++(if u=true then t.oth else t.oth++[t.procs.length]):=hr
   unfold TS.que
   by_cases hu:u=true
   ·rw [if_pos hu,if_pos hu] at hr
    simp at hr ⊢
    rcases hr with x|x|x|x
    ·exact .inr (.inl x)
    ·exact .inr (.inr (.inl x))
    ·exact .inl x
    ·exact .inr (.inr (.inr x))
   ·rw [if_neg hu,if_neg hu] at hr
    simp at hr ⊢
    rcases hr with x|x|x|x
    ·exact .inr (.inl x)
    ·exact .inr (.inr (.inl x))
    ·exact .inr (.inr (.inr x))
    ·exact .inl x
  rcases hr with rfl|hr
  ·exact⟨by omega,updS_self ..⟩
  ·have:=h.inq r hr
   exact⟨by omega,by rw [updS_ne _ _ (hold r this.1)];exact this.2⟩
 ·intro x hx
  rw [hlen]
  rw [e] at hx
  have:=h.slp x hx
  exact⟨by omega,by rw [updS_ne _ _ (hold _ this.1)];exact this.2⟩
 ·intro c r hr
  rw [hlen]
  rw [e] at hr
  have:=h.wr c r hr
  exact⟨by omega,by rw [updS_ne _ _ (hold _ this.1)];exact this.2⟩
 ·intro c r hr
  rw [hlen]
  have hr:(t.chn c).rd=some r:=by rw [e] at hr;exact hr
  obtain⟨a,b,k0,hk0,e0⟩:=h.rd c r hr
  refine⟨by omega,by rw [updS_ne _ _ (hold _ a)];exact b,k0,?_,e0⟩
  have hrp:r≠p:=by rintro rfl;rw [hst] at b;cases b
  rw [hget r (by omega) hrp,if_neg (hold r a)]
  exact hk0
 ·intro i hi r hr
  rw [hlen] at hi
  by_cases hip:i=p
  ·rw [hip,hself] at hr;rw [hip];exact h.above p hp r hr
  ·rw [hget i hi hip] at hr
   split at hr
   ·injection hr with hr;omega
   ·exact h.above i (by omega) r hr
 ·intro r hr
  rw [hlen] at hr
  have hcount:((t.beginNew p k u).procs.countP (isKid r):Nat)=t.procs.countP (isKid r)+(if r=p then 1 else 0):=by
   rw [e]
   show (t.procs.set p _++[_]).countP (isKid r)=_
   rw [List.countP_append,countP_same t.procs p { t.pr p with below:=(t.pr p).below+1 } r hp rfl]
   congr 1
   by_cases hrp:r=p
   ·rw [if_pos hrp];subst hrp;simp [isKid]
   ·rw [if_neg hrp];simp [isKid];intro x;exact absurd x.symm hrp
  rw [hcount]
  by_cases hrp:r=p
  ·rw [hrp,hself,if_pos rfl]
   show (t.pr p).below+1=_
   rw [h.cnt p hp]
   push_cast
   rfl
  ·rw [hget r hr hrp,if_neg hrp]
   split
   ·rename_i x
    have hz:t.procs.countP (isKid r)=0:=by
     rw [List.countP_eq_zero]
     intro y hy hkid
     obtain⟨i,hi,rfl⟩:=List.getElem_of_mem hy
     have ey:t.pr i=t.procs[i]:=getD_lt _ _ _ hi
     unfold isKid at hkid
     rw [Bool.and_eq_true,decide_eq_true_eq,<-ey] at hkid
     have:=h.above i hi r hkid.1
     omega
    rw [hz]
    rfl
   ·rename_i x
    rw [h.cnt r (by omega)]
    rfl
theorem wait_begin (t:TS) (hp:p<t.procs.length) (k:Nat) (u:Bool):(t.beginNew p k u).wait p 1=(t.wait p 1).beginNew p k u:=by
 have hpw:p<(t.wait p 1).procs.length:=by show p<(t.setPr p _).procs.length;rw [TS.len_set];exact hp
 have epw:(t.wait p 1).pr p={ t.pr p with told:=1 }:=TS.pr_self hp _
 have elw:(t.wait p 1).procs.length=t.procs.length:=TS.len_set _ _ _
 unfold TS.wait at *
 rw [TS.beginNew_pr t hp,TS.beginNew_is,TS.beginNew_is,epw,elw]
 unfold TS.setPr TS.leave
 dsimp only
 congr 1
 rw [List.set_append_left _ _ (by rw [List.length_set];exact hp),List.set_set,List.set_set]
theorem begN_len (pri:Bool) (ks:List Nat) (m:Nat) (hp:p<t.procs.length):p<(begN pri p ks t m).procs.length:=by
 induction m with
 | zero=>exact hp
 | succ m ih =>
  rw [begN_succ,TS.beginNew_is]
  simp
  omega
theorem wait_begN (pri:Bool) (ks:List Nat) (hp:p<t.procs.length):∀ m,(begN pri p ks t m).wait p 1=begN pri p ks (t.wait p 1) m
 | 0=>rfl
 | m+1=>by
  rw [begN_succ,begN_succ,wait_begin _ (begN_len pri ks m hp),wait_begN pri ks hp m]
  congr 2
  rw [<-wait_begN pri ks hp m]
  have:((begN pri p ks t m).wait p 1).pr p={ (begN pri p ks t m).pr p with told:=1 }:=TS.pr_self (begN_len pri ks m hp) _
  rw [this]
theorem TInv.begN (h:TInv T n st t) (hp:p<t.procs.length) (hst:st p=.join) (pri:Bool) (ks:List Nat) (hk:∀ k∈ks,k<T.length∧procK (T.getD k default).kind):∀ m,m≤ks.length->∃ st',TInv T n st' (begN pri p ks t m)∧st' p=.join
 | 0,_=>⟨st,h,hst⟩
 | m+1,hm=>by
  obtain⟨st',h1,h2⟩:=TInv.begN h hp hst pri ks hk m (by omega)
  rw [begN_succ]
  have hmem:ks.getD m 0∈ks:=by
   rw [getD_lt ks m 0 (by omega)]
   exact List.getElem_mem _
  exact⟨_,h1.begin (begN_len pri ks m hp) h2 _ (hk _ hmem) _⟩
theorem TInv.begins (h:TInv T n st t) (hc:t.cur=some p) (pri:Bool) (ks:List Nat) (hk:∀ k∈ks,k<T.length∧procK (T.getD k default).kind):∃ st',TInv T n st' (if ((TS.begins pri t p ks).pr p).below > 0 then (TS.begins pri t p ks).wait p 1 else TS.begins pri t p ks):=by
 obtain⟨hp,hr,_,_⟩:=h.curq hc
 have k:=h.prs p hp
 rw [hr] at k
 rw [beginsT_is]
 cases ks with
 | nil =>
  have:(_root_.Go.Proofs.YtnhidaamfnjdjaaGreatDoor.begN pri p [] t ([]:List Nat).length)=t:=rfl
  rw [this,if_neg (by rw [k.below (by simp)];decide)]
  exact⟨st,h⟩
 | cons k0 ks =>
  obtain⟨st',h1,h2⟩:=(h.wait1 hc .join rfl).begN (p:=p) (by show p<(t.setPr p _).procs.length;rw [TS.len_set];exact hp) (updS_self ..) pri (k0 :: ks) hk (k0 :: ks).length (Nat.le_refl _)
  rw [<-wait_begN pri (k0 :: ks) hp] at h1
  have hpos:((_root_.Go.Proofs.YtnhidaamfnjdjaaGreatDoor.begN pri p (k0 :: ks) t (k0 :: ks).length).pr p).below > 0:=by
   have gen:∀ m,((_root_.Go.Proofs.YtnhidaamfnjdjaaGreatDoor.begN pri p (k0 :: ks) t m).pr p).below=(t.pr p).below+m:=by
    intro m
    induction m with
    | zero=>show (t.pr p).below=_;simp
    | succ m ih =>
     rw [begN_succ,TS.beginNew_pr _ (begN_len pri (k0 :: ks) m hp)]
     show ((_root_.Go.Proofs.YtnhidaamfnjdjaaGreatDoor.begN pri p (k0 :: ks) t m).pr p).below+1=_
     rw [ih]
     push_cast
     omega
   rw [gen,k.below (by simp)]
   simp
  rw [if_pos hpos]
  exact⟨st',h1⟩
end
end Go.Proofs.YtnhidaamfnjdjaaGreatDoor
namespace Go.Proofs.YtnhidaamfnjdjaaGreatDoor
open Go.RowKit Go.Maps
section
variable {T : List PNode} {n : Nat} {st : Nat → St} {t : TS} {p q : Nat}
theorem kid_pos (h:TInv T n st t) (hp:p<t.procs.length) (hf:(t.pr p).fin=false) (hq:(t.pr p).above=some q):q<p∧0<(t.pr q).below∧st q=.join:=by
 have hlt:=h.above p hp q hq
 have hql:q<t.procs.length:=by omega
 have hc:=h.cnt q hql
 have hk:0<t.procs.countP (isKid q):=by
  refine List.countP_pos_iff.2 ⟨t.procs[p],List.getElem_mem hp,?_⟩
  have ey:t.pr p=t.procs[p]:=getD_lt _ _ _ hp
  unfold isKid
  rw [<-ey,hq,hf]
  simp
 refine⟨hlt,by omega,?_⟩
 have k:=h.prs q hql
 by_cases e:st q=.join
 ·exact e
 ·have:=k.below e
  omega
theorem TInv.finish (h:TInv T n st t) (hc:t.cur=some p) (hu:(t.pr p).above=none):TInv T n (updS st p .dead) (t.setPr p { t.pr p with fin:=true }).leave:=by
 obtain⟨hp,hr,h1,h2⟩:=h.curq hc
 have k:=h.prs p hp
 rw [hr] at k
 have hl:=h.leave hc
 have hlen:(t.setPr p { t.pr p with fin:=true }).leave.procs.length=t.procs.length:=TS.len_set _ _ _
 have es:(t.setPr p { t.pr p with fin:=true }).leave.pr p={ t.pr p with fin:=true }:=TS.pr_self hp _
 have en:∀ r,r≠p->(t.setPr p { t.pr p with fin:=true }).leave.pr r=t.pr r:=fun r hr=>TS.pr_ne t hr _
 refine⟨hl.vl,hl.cl,?_,hl.nd,?_,?_,hl.slpN,?_,?_,?_,?_⟩
 ·intro r hr
  rw [hlen] at hr
  by_cases e:r=p
  ·subst e
   rw [es,updS_self]
   exact⟨k.told,fun _=>k.below (by simp),k.pile,fun x=>(by cases x),fun _=>rfl⟩
  ·rw [en r e];exact hl.prs r hr
 ·intro r hr;rw [hlen];exact hl.inq r hr
 ·intro r hr;rw [hlen];exact hl.slp r hr
 ·intro c r hr;rw [hlen];exact hl.wr c r hr
 ·intro c r hr
  rw [hlen]
  have hrp:r≠p:=by
   rintro rfl
   exact h.noR (by rw [‹st r=.run›];simp) c hr
  rw [en r hrp]
  exact hl.rd c r hr
 ·intro i hi r hr
  rw [hlen] at hi
  by_cases e:i=p
  ·rw [e,es] at hr;rw [e];exact h.above p hp r hr
  ·rw [en i e] at hr;exact h.above i hi r hr
 ·intro r hr
  rw [hlen] at hr
  have hcount:((t.setPr p { t.pr p with fin:=true }).leave.procs.countP (isKid r):Nat)=t.procs.countP (isKid r):=by
   refine countP_same t.procs p _ r hp ?_
   have:t.procs.getD p default=t.pr p:=rfl
   rw [this]
   unfold isKid
   rw [hu]
   simp
  rw [hcount,<-h.cnt r hr]
  by_cases e:r=p
  ·rw [e,es]
  ·rw [en r e]
theorem TInv.finish2 (h:TInv T n st t) (hc:t.cur=some p) (hu:(t.pr p).above=some q):TInv T n (updS st p .dead) ((t.setPr p { t.pr p with fin:=true }).leave.setPr q { t.pr q with below:=(t.pr q).below - 1 })∧q≠p∧q<t.procs.length∧st q=.join∧0<(t.pr q).below:=by
 obtain⟨hp,hr,h1,h2⟩:=h.curq hc
 have k:=h.prs p hp
 rw [hr] at k
 have hnf:=h.notFin hp (by rw [hr];simp)
 obtain⟨hlt,hpos,hj⟩:=kid_pos h hp hnf hu
 have hqp:q≠p:=by omega
 have hq:q<t.procs.length:=by omega
 refine⟨?_,hqp,hq,hj,hpos⟩
 have hl:=h.leave hc
 have kq:=h.prs q hq
 rw [hj] at kq
 generalize hY:({ t.pr p with fin:=true }:TP)=Y
 generalize hZ:({ t.pr q with below:=(t.pr q).below - 1 }:TP)=Z
 have hlen:((t.setPr p Y).leave.setPr q Z).procs.length=t.procs.length:=by
  rw [TS.len_set]
  exact TS.len_set _ _ _
 have hq1:q<(t.setPr p Y).leave.procs.length:=by show q<(t.setPr p Y).procs.length;rw [TS.len_set];exact hq
 have esq:((t.setPr p Y).leave.setPr q Z).pr q=Z:=TS.pr_self hq1 _
 have es:((t.setPr p Y).leave.setPr q Z).pr p=Y:=by
  rw [TS.pr_ne _ (fun e=>hqp e.symm)]
  exact TS.pr_self hp _
 have en:∀ r,r≠p->r≠q->((t.setPr p Y).leave.setPr q Z).pr r=t.pr r:=fun r hr hr2=>by
  rw [TS.pr_ne _ hr2]
  exact TS.pr_ne t hr _
 refine⟨hl.vl,hl.cl,?_,hl.nd,?_,?_,hl.slpN,?_,?_,?_,?_⟩
 ·intro r hr
  rw [hlen] at hr
  by_cases e:r=p
  ·subst e
   rw [es,updS_self,<-hY]
   exact⟨k.told,fun _=>k.below (by simp),k.pile,fun x=>(by cases x),fun _=>rfl⟩
  ·by_cases e2:r=q
   ·subst e2
    rw [esq,updS_ne _ _ e,hj,<-hZ]
    exact⟨kq.told,fun x=>absurd rfl x,kq.pile,fun x=>(by cases x),kq.fin⟩
   ·rw [en r e e2];exact hl.prs r hr
 ·intro r hr;rw [hlen];exact hl.inq r hr
 ·intro r hr;rw [hlen];exact hl.slp r hr
 ·intro c r hr;rw [hlen];exact hl.wr c r hr
 ·intro c r hr
  rw [hlen]
  have hrp:r≠p:=by
   rintro rfl
   exact h.noR (by rw [‹st r=.run›];simp) c hr
  have hrq:r≠q:=by
   rintro rfl
   exact h.noR (by rw [hj];simp) c hr
  rw [en r hrp hrq]
  exact hl.rd c r hr
 ·intro i hi r hr
  rw [hlen] at hi
  by_cases e:i=p
  ·rw [e,es,<-hY] at hr;rw [e];exact h.above p hp r hr
  ·by_cases e2:i=q
   ·rw [e2,esq,<-hZ] at hr;rw [e2];exact h.above q hq r hr
   ·rw [en i e e2] at hr;exact h.above i hi r hr
 ·intro r hr
  rw [hlen] at hr
  have c1:(((t.setPr p Y).leave.setPr q Z).procs.countP (isKid r):Nat)=(t.procs.set p Y).countP (isKid r):=by
   refine countP_same (t.procs.set p Y) q Z r (by rw [List.length_set];exact hq) ?_
   have e3:(t.procs.set p Y).getD q default=t.pr q:=TS.pr_ne t hqp Y
   rw [e3,<-hZ]
   rfl
  have c2:(t.procs.set p Y).countP (isKid r)+(if r=q then 1 else 0)=t.procs.countP (isKid r):=by
   rw [List.countP_set hp]
   have ey:t.procs[p]=t.pr p:=(getD_lt _ _ _ hp).symm
   rw [ey,<-hY]
   have k1:isKid r (t.pr p)=decide (r=q):=by
    unfold isKid
    rw [hu,hnf]
    simp only [Option.some.injEq,Bool.not_false,Bool.and_true]
    exact decide_eq_decide.2 ⟨fun x=>x.symm,fun x=>x.symm⟩
   have k2:isKid r ({ t.pr p with fin:=true }:TP)=false:=by
    unfold isKid
    simp
   rw [k1,k2]
   by_cases e:r=q
   ·subst e
    have:0<t.procs.countP (isKid r):=by have:=h.cnt r hq;omega
    simp
    omega
   ·simp [e]
  rw [c1]
  have c3:=h.cnt r hr
  by_cases e:r=p
  ·have yb:Y.below=(t.pr p).below:=by rw [<-hY]
   rw [e,es,yb]
   rw [e] at c2 c3
   rw [if_neg (fun x=>hqp x.symm)] at c2
   rw [c3]
   omega
  ·by_cases e2:r=q
   ·have zb:Z.below=(t.pr q).below - 1:=by rw [<-hZ]
    rw [e2,esq,zb]
    rw [e2] at c2 c3
    rw [if_pos rfl] at c2
    rw [c3]
    omega
   ·rw [en r e e2,c3]
    rw [if_neg e2] at c2
    omega
theorem TInv.endP (h:TInv T n st t) (hc:t.cur=some p):∃ st',TInv T n st' (t.endP T p):=by
 obtain⟨hp,hr,h1,h2⟩:=h.curq hc
 cases hu:(t.pr p).above with
 | none =>
  rw [TS.endP_none (T:=T) t hp hu]
  exact⟨_,(h.finish hc hu).setFlags true t.faulty⟩
 | some q =>
  obtain⟨i1,hqp,hq,hj,hpos⟩:=h.finish2 hc hu
  rw [TS.endP_some (T:=T) t hp hu hqp hq]
  have hq1:q<(t.setPr p { t.pr p with fin:=true }).leave.procs.length:=by show q<(t.setPr p _).procs.length;rw [TS.len_set];exact hq
  have ej:updS st p .dead q=.join:=by rw [updS_ne _ _ hqp];exact hj
  split
  ·rename_i hz
   have hq2:q<((t.setPr p { t.pr p with fin:=true }).leave.setPr q { t.pr q with below:=(t.pr q).below - 1 }).procs.length:=by rw [TS.len_set];exact hq1
   have kq:=i1.prs q hq2
   rw [ej] at kq
   have eself:((t.setPr p { t.pr p with fin:=true }).leave.setPr q { t.pr q with below:=(t.pr q).below - 1 }).pr q={ t.pr q with below:=(t.pr q).below - 1 }:=TS.pr_self hq1 _
   unfold TS.tell
   rw [if_neg (by rw [kq.told];decide)]
   exact⟨_,i1.goOn hq2 (by rw [ej];simp) (by rw [ej];simp) (by rw [eself];exact hz) (i1.noS (by rw [ej];simp)) (i1.noW (fun c=>by rw [ej];simp)) (i1.noR (by rw [ej];simp))⟩
  ·exact⟨_,i1⟩
theorem TInv.free1 (wf:WfT T) (h:TInv T n st t) (hc:t.cur=some p) {t':TS} (hf:t.free1 T p=some t'):TInv T n st t'∧t'.cur=some p:=by
 obtain⟨hp,hr,_,_⟩:=h.curq hc
 have k:=h.prs p hp
 unfold TS.free1 at hf
 cases hpile:(t.pr p).pile with
 | nil=>rw [hpile] at hf;cases hf
 | cons x l =>
  obtain⟨i,e⟩:=x
  rw [hpile] at hf
  have hall:=k.pile
  rw [hpile] at hall
  have hi:=(hall (i,e) (by simp)).1
  have hl:∀ kd∈l,kd.1<T.length∧procK (T.getD kd.1 default).kind:=fun kd hkd=>hall kd (by simp [hkd])
  have todo:∀ l',(∀ kd∈l',kd.1<T.length∧procK (T.getD kd.1 default).kind)->TInv T n st (t.todo p l'):=fun l' hl'=>h.todo hc l' hl' (t.pr p).opn
  have epop:t.pop p=t.todo p l:=by unfold TS.pop;rw [hpile];rfl
  have kid:∀ d,d<(T.getD i default).kids.length->(T.getD i default).kind≠11->(T.getD i default).kind≠13->(T.getD i default).kids.getD d 0<T.length∧procK (T.getD ((T.getD i default).kids.getD d 0) default).kind:=by
   intro d hd h11 h13
   have hm:(T.getD i default).kids.getD d 0∈(T.getD i default).kids:=by
    rw [getD_lt (T.getD i default).kids d 0 hd]
    exact List.getElem_mem _
   exact⟨(wf.up i _ hm).2,wf.kids i hi h11 h13 _ hm⟩
  dsimp only at hf
  rw [epop] at hf
  by_cases h7:(T.getD i default).kind=7
  ·rw [if_pos h7] at hf
   injection hf with hf
   by_cases hd:e<(T.getD i default).kids.length
   ·rw [if_pos hd,TS.todo_push t hp,TS.todo_push t hp] at hf
    rw [<-hf]
    refine⟨todo _ (fun kd hkd=>?_),hc⟩
    rcases List.mem_cons.1 hkd with rfl|hkd
    ·exact kid e hd (by omega) (by omega)
    ·rcases List.mem_cons.1 hkd with rfl|hkd
     ·exact hall (i,e) (by simp)
     ·exact hl kd hkd
   ·rw [if_neg hd] at hf
    rw [<-hf]
    exact⟨todo l hl,hc⟩
  ·rw [if_neg h7] at hf
   have down:(T.getD i default).kind=15∨(T.getD i default).kind=16->∀ kd∈((T.getD i default).kids.getD 0 0,0) :: l,kd.1<T.length∧procK (T.getD kd.1 default).kind:=by
    intro hk kd hkd
    rcases List.mem_cons.1 hkd with rfl|hkd
    ·exact kid 0 (by rw [wf.one i hi (by omega)];omega) (by omega) (by omega)
    ·exact hl kd hkd
   by_cases h15:(T.getD i default).kind=15
   ·rw [if_pos h15] at hf
    injection hf with hf
    have e1:(({ t with vars:=t.vars.set (T.getD i default).nd.toNat 0 }:TS).pop p).down T p i={ t.todo p (((T.getD i default).kids.getD 0 0,0) :: l) with vars:=t.vars.set (T.getD i default).nd.toNat 0 }:=by
     have:({ t with vars:=t.vars.set (T.getD i default).nd.toNat 0 }:TS).pop p=({ t with vars:=t.vars.set (T.getD i default).nd.toNat 0 }:TS).todo p l:=by
      unfold TS.pop TS.todo
      show TS.setPr _ p { t.pr p with pile:=(t.pr p).pile.tail }=TS.setPr _ p { t.pr p with pile:=l }
      rw [hpile]
      rfl
     rw [this,TS.todo_down (T:=T) ({ t with vars:=t.vars.set (T.getD i default).nd.toNat 0 }:TS) hp]
     rfl
    rw [e1] at hf
    rw [<-hf]
    exact⟨(todo _ (down (.inl h15))).setVars _ _,hc⟩
   ·rw [if_neg h15] at hf
    by_cases h16:(T.getD i default).kind=16
    ·rw [if_pos h16] at hf
     injection hf with hf
     rw [TS.todo_down t hp] at hf
     rw [<-hf]
     exact⟨todo _ (down (.inr h16)),hc⟩
    ·rw [if_neg h16] at hf;cases hf
theorem firstW_mem (vars:List Int):∀ (l:List Nat) (k:Nat),TS.firstW T vars l=some (some k)->k∈l
 | [],k,h=>by cases h
 | x :: l,k,h=>by
  have h:(match evalE vars (T.getD x default).expr with
   | none=>none
   | some v=>if v=0 then TS.firstW T vars l else some (some x))=some (some k):=h
  cases hv:evalE vars (T.getD x default).expr with
  | none=>rw [hv] at h;cases h
  | some v =>
   rw [hv] at h
   dsimp only at h
   by_cases v0:v=0
   ·rw [if_pos v0] at h;exact List.mem_cons_of_mem _ (firstW_mem vars l k h)
   ·rw [if_neg v0] at h
    injection h with h
    injection h with h
    rw [h]
    exact List.mem_cons_self
theorem opens_sub (vars:List Int):∀ (l o:List Nat),TS.opens T vars l=some o->o.Sublist l
 | [],o,h=>by
  have h:some []=some o:=h
  injection h with h
  rw [<-h]
  exact List.Sublist.refl _
 | k :: l,o,h=>by
  have h:(match guardE vars (T.getD k default).expr with
   | none=>none
   | some v=>match TS.opens T vars l with
    | none=>none
    | some o=>some (if v=0 then o else k :: o))=some o:=h
  cases hg:guardE vars (T.getD k default).expr with
  | none=>rw [hg] at h;cases h
  | some v =>
   rw [hg] at h
   dsimp only at h
   cases ho:TS.opens T vars l with
   | none=>rw [ho] at h;cases h
   | some m =>
    rw [ho] at h
    dsimp only at h
    injection h with h
    have ih:=opens_sub vars l m ho
    rw [<-h]
    split
    ·exact ih.cons _
    ·exact ih.cons_cons _
theorem TInv.stepN (wf:WfT T) (hcd:∀ k,(T.getD k default).cd.toNat<n) (hkl:∀ i,(T.getD i default).kids.length<900000) (h:TInv T n st t) (hc:t.cur=some p) {i e:Nat} {l:List (Nat×Nat)} (hpile:(t.pr p).pile=(i,e) :: l) (hk:(T.getD i default).kind≠7∧(T.getD i default).kind≠15∧(T.getD i default).kind≠16):∃ st',TInv T n st' (t.stepN T p i):=by
 obtain⟨hp,hr,_,_⟩:=h.curq hc
 have k:=h.prs p hp
 have hall:=k.pile
 rw [hpile] at hall
 obtain⟨hi,k1,k2,k3,k4⟩:=hall (i,e) (by simp)
 have hi:i<T.length:=hi
 have k1:1≤(T.getD i default).kind:=k1
 have k2:(T.getD i default).kind≤16:=k2
 have k3:(T.getD i default).kind≠12:=k3
 have k4:(T.getD i default).kind≠14:=k4
 have hl:∀ kd∈l,kd.1<T.length∧procK (T.getD kd.1 default).kind:=fun kd hkd=>hall kd (by simp [hkd])
 have todo:∀ l',(∀ kd∈l',kd.1<T.length∧procK (T.getD kd.1 default).kind)->TInv T n st (t.todo p l'):=fun l' hl'=>h.todo hc l' hl' (t.pr p).opn
 have epop:t.pop p=t.todo p l:=by unfold TS.pop;rw [hpile];rfl
 have base:=todo l hl
 have hcb:(t.todo p l).cur=some p:=hc
 have kid0:∀ j,j<T.length->(T.getD j default).kids.length=1->(T.getD j default).kind≠11->(T.getD j default).kind≠13->(T.getD j default).kids.getD 0 0<T.length∧procK (T.getD ((T.getD j default).kids.getD 0 0) default).kind:=by
  intro j hj hone h11 h13
  have hm:(T.getD j default).kids.getD 0 0∈(T.getD j default).kids:=by
   rw [getD_lt (T.getD j default).kids 0 0 (by omega)]
   exact List.getElem_mem _
  exact⟨(wf.up j _ hm).2,wf.kids j hj h11 h13 _ hm⟩
 unfold TS.stepN
 dsimp only
 rw [epop]
 by_cases h1:(T.getD i default).kind=1
 ·rw [if_pos h1];exact⟨_,base⟩
 rw [if_neg h1]
 by_cases h2:(T.getD i default).kind=2
 ·rw [if_pos h2];exact⟨_,base.leave hcb⟩
 rw [if_neg h2]
 by_cases h3:(T.getD i default).kind=3
 ·rw [if_pos h3]
  split
  ·exact⟨_,base.fault hcb⟩
  ·exact⟨_,base.setVars _ _⟩
 rw [if_neg h3]
 by_cases h4:(T.getD i default).kind=4
 ·rw [if_pos h4]
  split
  ·exact⟨_,base.fault hcb⟩
  ·rename_i v _
   split
   ·exact⟨_,base.setOut _⟩
   ·obtain⟨st',s1,s2,s3⟩:=base.send wf hcd (T.getD i default).cd v
    split
    ·rename_i t1 he
     rw [he] at s1
     exact⟨_,s1⟩
    ·rename_i t1 he
     rw [he] at s1 s2
     have e0:=s2 rfl
     subst e0
     have hc1:t1.cur=some p:=by
      unfold TS.send at he
      split at he
      ·injection he with _ he
       rw [<-he]
       exact hc
      ·injection he with he _
       cases he
     have w:=s1.wait1 hc1 (.wr (T.getD i default).cd.toNat) rfl
     have hp1:p<t1.procs.length:=(s1.curq hc1).1
     have w2:=w.setCh (T.getD i default).cd { t1.ch (T.getD i default).cd with wr:=some p } (fun q hq=>by
      injection hq with hq
      subst hq
      exact⟨by show p<(t1.setPr p _).procs.length;rw [TS.len_set];exact hp1,updS_self ..⟩) (fun q hq=>w.rd _ q hq)
     exact⟨_,w2⟩
 rw [if_neg h4]
 by_cases h5:(T.getD i default).kind=5
 ·rw [if_pos h5]
  split
  ·exact⟨_,base.fault hcb⟩
  ·rename_i o ho
   have hs:=opens_sub _ _ _ ho
   have hol:=hs.length_le
   refine base.reads wf hcd hcb o (by simp at hol;omega) (fun k hk=>?_)
   have:=hs.subset hk
   rw [List.mem_singleton] at this
   subst this
   exact⟨hi,.inl h5⟩
 rw [if_neg h5]
 by_cases h6:(T.getD i default).kind=6
 ·rw [if_pos h6]
  split
  ·exact⟨_,base.fault hcb⟩
  ·rename_i v _
   split
   ·exact⟨_,base.fault hcb⟩
   ·split
    ·have w:=base.wait1 hcb .sleep rfl
     have hns:=base.noS (p:=p) (by rw [hr];simp)
     have hpm:=tPush_perm (w64 ((t.todo p l).time+v),(t.todo p l).slept,p) (t.todo p l).asleep
     have hlw:((t.todo p l).wait p 1).procs.length=t.procs.length:=by
      show ((t.todo p l).setPr p _).procs.length=_
      rw [TS.len_set,TS.todo_len]
     have w2:=w.setSleep (pushF' (w64 ((t.todo p l).time+v),(t.todo p l).slept,p) (t.todo p l).asleep) ((t.todo p l).slept+1) (fun x hx=>by
      rw [hlw]
      rcases List.mem_cons.1 (hpm.mem_iff.1 hx) with rfl|hx
      ·exact⟨hp,updS_self ..⟩
      ·have:=base.slp x hx
       rw [TS.todo_len] at this
       exact⟨this.1,by rw [updS_ne _ _ (hns x hx)];exact this.2⟩) (by
      rw [(hpm.map _).nodup_iff,List.map_cons,List.nodup_cons]
      refine⟨fun hm=>?_,base.slpN⟩
      obtain⟨x,hx,e⟩:=List.mem_map.1 hm
      exact hns x hx e)
     exact⟨_,w2⟩
    ·exact⟨_,base⟩
 rw [if_neg h6]
 by_cases h8:(T.getD i default).kind=8∨(T.getD i default).kind=9
 ·rw [if_pos h8]
  exact base.begins hcb _ _ (fun k hk=>⟨(wf.up i k hk).2,wf.kids i hi (by omega) (by omega) k hk⟩)
 rw [if_neg h8]
 by_cases h10:(T.getD i default).kind=10
 ·rw [if_pos h10]
  split
  ·exact⟨_,base.fault hcb⟩
  ·split
   ·exact⟨_,base⟩
   ·rw [TS.todo_push t hp,TS.todo_down t hp]
    refine⟨_,todo _ (fun kd hkd=>?_)⟩
    rcases List.mem_cons.1 hkd with rfl|hkd
    ·exact kid0 i hi (wf.one i hi (.inl h10)) (by omega) (by omega)
    ·rcases List.mem_cons.1 hkd with rfl|hkd
     ·exact hall (i,e) (by simp)
     ·exact hl kd hkd
 rw [if_neg h10]
 by_cases h11:(T.getD i default).kind=11
 ·rw [if_pos h11]
  split
  ·exact⟨_,base.fault hcb⟩
  ·exact⟨_,base.leave hcb⟩
  ·rename_i k0 hk0
   have hm:=firstW_mem _ _ _ hk0
   have hw:=wf.whens i hi h11 k0 hm
   have hk0l:=(wf.up i k0 hm).2
   rw [TS.todo_down t hp]
   refine⟨_,todo _ (fun kd hkd=>?_)⟩
   rcases List.mem_cons.1 hkd with rfl|hkd
   ·exact kid0 k0 hk0l (wf.one k0 hk0l (.inr (.inl hw.1))) (by omega) (by omega)
   ·exact hl kd hkd
 rw [if_neg h11]
 have h13:(T.getD i default).kind=13:=by omega
 split
 ·exact⟨_,base.fault hcb⟩
 ·rename_i o ho
  have hs:=opens_sub _ _ _ ho
  have hol:=hs.length_le
  have:=hkl i
  refine base.reads wf hcd hcb o (by omega) (fun k hk=>?_)
  have hm:=hs.subset hk
  exact⟨(wf.up i k hm).2,.inr (wf.ons i hi h13 k hm).1⟩
end
end Go.Proofs.YtnhidaamfnjdjaaGreatDoor
