import Derived.Lib.Strings
import Derived.Lib.Bytealg
import Derived.Lib.TrimByte
import Derived.Lib.Atoi
import Derived.Lib.IndexMore
import Derived.WalkKit
import Derived.Laws.BitsLemmas
import Derived.Maps.Ext
import Derived.Maps.OwnOps
import Derived.Maps.RangeWalk
import Derived.Maps.Views
import Derived.Lib.Split
namespace Go.Proofs.YtnhidaamfnjdjaaGreatDoor
abbrev Bs:=List UInt8
def isLetterB (c:Int):Bool:=decide (97≤c)&&decide (c≤122)
def isDigitB (c:Int):Bool:=decide (48≤c)&&decide (c≤57)
def spanN (p:Int->Bool) (l:Bs):Nat:=(l.takeWhile fun c=>p c.toNat).length
theorem spanN_le (p:Int->Bool) (l:Bs):spanN p l≤l.length:=by
 unfold spanN
 exact (List.takeWhile_prefix _).length_le
theorem spanN_step (p:Int->Bool):∀ (l:Bs) (k:Nat) (hk:k<l.length),k≤spanN p l->p (l[k].toNat)=true->k+1≤spanN p l
 | c :: l,0,_,_,h=>by simp at h;simp [spanN,h]
 | c :: l,k+1,hk,hle,h=>by
  by_cases hc:p c.toNat=true
  ·simp [spanN,hc] at hle ⊢
   exact spanN_step p l k (by simpa using hk) hle (by simpa using h)
  ·simp [spanN,hc] at hle
theorem spanN_stop (p:Int->Bool):∀ (l:Bs) (k:Nat) (hk:k<l.length),k≤spanN p l->p (l[k].toNat)=false->spanN p l=k
 | c :: l,0,_,_,h=>by simp at h;simp [spanN,h]
 | c :: l,k+1,hk,hle,h=>by
  by_cases hc:p c.toNat=true
  ·simp [spanN,hc] at hle ⊢
   exact spanN_stop p l k (by simpa using hk) hle (by simpa using h)
  ·simp [spanN,hc] at hle
structure Tk where
 kind:Int
 text:Bs
 rest:Bs
def cutTok (kind:Int) (most:Nat) (p:Int->Bool) (l:Bs):Tk :=
 if most<spanN p l then ⟨1,[],[]⟩ else ⟨kind,l.take (spanN p l),l.drop (spanN p l)⟩
def signsB:Bs:=[33,63,43,45,42,47,37,61,60,62,40,41,38]
def opersB:Bs:=[43,45,42,47,37,61,60,62]
def trimB (l:Bs):Bs:=Lib.trimLeftB l 32
def nextT:Bs->Tk
 | []=>⟨0,[],[]⟩
 | c :: r =>
  if isLetterB c.toNat then cutTok 2 6 isLetterB (c :: r)
  else if isDigitB c.toNat then cutTok 3 7 isDigitB (c :: r)
  else if Lib.hasPrefix (c :: r) [58,61] then ⟨4,[58,61],(c :: r).drop 2⟩
  else if 0≤Lib.indexByte signsB c then ⟨4,[c],r⟩
  else ⟨1,[],[]⟩
def nextS (line:Bs):Tk:=nextT (trimB line)
structure RS where
 kind:Int
 text:Bs
 rest:Bs
 opn:Int
 errno:Int
def RS.next (σ:RS):RS:={ σ with kind:=(nextS σ.rest).kind,text:=(nextS σ.rest).text,rest:=(nextS σ.rest).rest }
def RS.fail (σ:RS) (e:Int):RS:={ σ with kind:=1,text:=[],rest:=[],errno:=if σ.errno=0 then e else σ.errno }
def RS.need (σ:RS) (t:Bs):RS:=if σ.text=t then σ.next else σ.fail 2
end Go.Proofs.YtnhidaamfnjdjaaGreatDoor
namespace Go.Proofs.YtnhidaamfnjdjaaGreatDoor
def wSkip:Bs:=[115,107,105,112]
def wStop:Bs:=[115,116,111,112]
def wWait:Bs:=[119,97,105,116]
def wSeq:Bs:=[115,101,113]
def wPar:Bs:=[112,97,114]
def wPri:Bs:=[112,114,105]
def wWhile:Bs:=[119,104,105,108,101]
def wIf:Bs:=[105,102]
def wWhen:Bs:=[119,104,101,110]
def wAlt:Bs:=[97,108,116]
def wOn:Bs:=[111,110]
def wVar:Bs:=[118,97,114]
def wChan:Bs:=[99,104,97,110]
def wIn:Bs:=[105,110]
def wOut:Bs:=[111,117,116]
def wordsB:List Bs:=[wSkip,wStop,wWait,wSeq,wPar,wPri,wWhile,wIf,wWhen,wAlt,wOn,wVar,wChan,wIn,wOut]
def reservedB (w:Bs):Bool:=wordsB.contains w
structure RS.Ok (σ:RS):Prop where
 rest:σ.rest.length≤800
 num:σ.kind=3->∃ n,Lib.atoi σ.text=some n∧σ.text.length≤18
 sign:σ.kind=4->σ.text≠[]
theorem decFrom_digits:∀ (l:Bs) (a:Nat),(∀ c∈l,isDigitB c.toNat=true)->∃ n,Lib.decFrom a l=some n
 | [],a,_=>⟨a,rfl⟩
 | c :: l,a,h=>by
  have hc:=h c (by simp)
  have hd:Lib.digitVal c=some (c.toNat - 48):=by
   unfold Lib.digitVal
   rw [if_pos]
   simp [isDigitB] at hc
   omega
  rw [Lib.decFrom,hd]
  exact decFrom_digits l _ (fun x hx=>h x (by simp [hx]))
theorem take_span (p:Int->Bool):∀ (l:Bs),l.take (spanN p l)=l.takeWhile fun c=>p c.toNat
 | []=>rfl
 | c :: l=>by
  by_cases h:p c.toNat=true
  ·have:=take_span p l
   unfold spanN at this ⊢
   simp [h,this]
  ·simp [spanN,h]
theorem mem_takeWhile {p:UInt8->Bool}:∀ (l:Bs) (c:UInt8),c∈l.takeWhile p->p c=true
 | [],c,h=>by simp at h
 | a :: l,c,h=>by
  by_cases ha:p a=true
  ·simp [ha] at h
   rcases h with rfl|h
   ·exact ha
   ·exact mem_takeWhile l c h
  ·simp [ha] at h
theorem atoi_digits (c:UInt8) (l:Bs) (hc:isDigitB c.toNat=true):∃ n,Lib.atoi ((c :: l).take (spanN isDigitB (c :: l)))=some n:=by
 rw [take_span]
 simp only [List.takeWhile_cons,hc,if_true]
 have hn:∀ x∈(c :: l.takeWhile fun c=>isDigitB c.toNat),isDigitB x.toNat=true:=by
  intro x hx
  simp only [List.mem_cons] at hx
  rcases hx with rfl|hx
  ·exact hc
  ·exact mem_takeWhile l x hx
 obtain⟨n,h⟩:=decFrom_digits _ 0 hn
 refine⟨(n:Int),?_⟩
 have h45:(c == 45)=false:=by
  simp [isDigitB] at hc
  rw [beq_eq_false_iff_ne]
  rintro rfl
  simp at hc
 have h43:(c == 43)=false:=by
  simp [isDigitB] at hc
  rw [beq_eq_false_iff_ne]
  rintro rfl
  simp at hc
 unfold Lib.atoi
 simp [h45,h43,Lib.decNat,h]
theorem cutTok_rest (k:Int) (m:Nat) (p:Int->Bool) (l:Bs):(cutTok k m p l).rest.length≤l.length:=by
 unfold cutTok;split <;> simp
theorem trimB_le (l:Bs):(trimB l).length≤l.length:=by
 unfold trimB Lib.trimLeftB;exact (List.dropWhile_suffix _).length_le
theorem nextT_rest:∀ l:Bs,(nextT l).rest.length≤l.length
 | []=>by simp [nextT]
 | c :: r=>by
  rw [nextT]
  split
  ·exact cutTok_rest _ _ _ _
  ·split
   ·exact cutTok_rest _ _ _ _
   ·split
    ·simp;omega
    ·split <;> simp
theorem nextT_num:∀ l:Bs,(nextT l).kind=3->∃ n,Lib.atoi (nextT l).text=some n∧(nextT l).text.length≤18
 | [],h=>by simp [nextT] at h
 | c :: r,h=>by
  rw [nextT] at h ⊢
  split at h
  ·unfold cutTok at h;split at h <;> simp at h
  ·rename_i h1
   split at h
   ·rename_i h2
    rw [if_neg h1,if_pos h2]
    unfold cutTok at h ⊢
    split at h
    ·simp at h
    ·rename_i h3
     rw [if_neg h3]
     obtain⟨n,hn⟩:=atoi_digits c r h2
     exact⟨n,hn,by simp;omega⟩
   ·split at h
    ·simp at h
    ·split at h <;> simp at h
theorem nextT_sign:∀ l:Bs,(nextT l).kind=4->(nextT l).text≠[]
 | [],h=>by simp [nextT] at h
 | c :: r,h=>by
  rw [nextT] at h ⊢
  split at h
  ·unfold cutTok at h;split at h <;> simp at h
  ·rename_i h1
   split at h
   ·unfold cutTok at h;split at h <;> simp at h
   ·rename_i h2
    rw [if_neg h1,if_neg h2]
    split at h
    ·rename_i h3;rw [if_pos h3];simp
    ·rename_i h3;rw [if_neg h3]
     split at h
     ·rename_i h4;rw [if_pos h4];simp
     ·simp at h
theorem RS.Ok.next {σ:RS} (h:σ.Ok):σ.next.Ok where
 rest:=Nat.le_trans (nextT_rest _) (Nat.le_trans (trimB_le _) h.rest)
 num:=nextT_num _
 sign:=nextT_sign _
theorem RS.Ok.fail {σ:RS} (_h:σ.Ok) (e:Int):(σ.fail e).Ok where
 rest:=by simp [RS.fail]
 num:=by simp [RS.fail]
 sign:=by simp [RS.fail]
theorem RS.Ok.need {σ:RS} (h:σ.Ok) (t:Bs):(σ.need t).Ok:=by
 unfold RS.need;split
 ·exact h.next
 ·exact h.fail 2
theorem RS.Ok.opn {σ:RS} (h:σ.Ok) (n:Int):({ σ with opn:=n }:RS).Ok:=⟨h.rest,h.num,h.sign⟩
theorem RS.need_opn (σ:RS) (t:Bs):(σ.need t).opn=σ.opn:=by unfold RS.need;split <;> rfl
def RS.atName (σ:RS):Bool:=(σ.kind == 2)&&!(reservedB σ.text)
def RS.name (σ:RS):Bs×RS:=if σ.atName then (σ.text,σ.next) else ([],σ.fail 2)
def RS.atOp (σ:RS):Bool:=(σ.kind == 4)&&Lib.contains opersB σ.text
theorem RS.Ok.name {σ:RS} (h:σ.Ok):σ.name.2.Ok:=by
 unfold RS.name;split
 ·exact h.next
 ·exact h.fail 2
theorem RS.name_opn (σ:RS):σ.name.2.opn=σ.opn:=by unfold RS.name;split <;> rfl
inductive PE where
 | nil
 | num (v:Int)
 | var (n:Bs) (d:Int)
 | pair (op:UInt8) (l r:PE)
def leafF (σ:RS):PE×RS :=
 if σ.kind=3 then (.num ((Lib.atoi σ.text).getD 0),σ.next) else (.var σ.name.1 0,σ.name.2)
def fromF (f:RS->PE×RS) (p:PE×RS):PE×RS :=
 if p.2.atOp then (.pair (p.2.text.headD 0) p.1 (f p.2.next).1,(f p.2.next).2) else p
def innerF (f:RS->PE×RS) (σ:RS):PE×RS :=
 let q:=fromF f (f (({ σ with opn:=σ.opn+1 }:RS).need [40]))
 (q.1,{ q.2.need [41] with opn:=(q.2.need [41]).opn - 1 })
def operandF:Nat->RS->PE×RS
 | 0,σ=>if σ.text=[40] then (.nil,σ.fail 3) else leafF σ
 | n+1,σ=>if σ.text=[40] then innerF (operandF n) σ else leafF σ
def exprF (n:Nat) (σ:RS):PE×RS:=fromF (operandF n) (operandF n σ)
theorem leafF_ok {σ:RS} (h:σ.Ok):(leafF σ).2.Ok∧(leafF σ).2.opn=σ.opn:=by
 unfold leafF;split
 ·exact⟨h.next,rfl⟩
 ·exact⟨h.name,RS.name_opn σ⟩
theorem fromF_ok {f:RS->PE×RS} (hf:∀ σ:RS,σ.Ok->(f σ).2.Ok∧(f σ).2.opn=σ.opn) {p:PE×RS} (hp:p.2.Ok):(fromF f p).2.Ok∧(fromF f p).2.opn=p.2.opn:=by
 unfold fromF;split
 ·exact hf _ hp.next
 ·exact⟨hp,rfl⟩
theorem operandF_ok:∀ (n:Nat) (σ:RS),σ.Ok->(operandF n σ).2.Ok∧(operandF n σ).2.opn=σ.opn
 | 0,σ,h=>by
  unfold operandF;split
  ·exact⟨h.fail 3,rfl⟩
  ·exact leafF_ok h
 | n+1,σ,h=>by
  unfold operandF;split
  ·have h1:(({ σ with opn:=σ.opn+1 }:RS).need [40]).Ok:=(h.opn _).need _
   have h2:=operandF_ok n _ h1
   have h3:=fromF_ok (operandF_ok n) h2.1
   refine⟨(h3.1.need _).opn _,?_⟩
   show (RS.need _ [41]).opn - 1=σ.opn
   rw [RS.need_opn,h3.2,h2.2,RS.need_opn]
   simp only []
   omega
  ·exact leafF_ok h
theorem exprF_ok (n:Nat) (σ:RS) (h:σ.Ok):(exprF n σ).2.Ok∧(exprF n σ).2.opn=σ.opn:=by
 have h1:=operandF_ok n σ h
 have h2:=fromF_ok (operandF_ok n) h1.1
 exact⟨h2.1,h2.2.trans h1.2⟩
end Go.Proofs.YtnhidaamfnjdjaaGreatDoor
namespace Go.Proofs.YtnhidaamfnjdjaaGreatDoor
structure LP where
 kind:Int
 name:Bs
 chan:Bs
 expr:PE
def readF (kind:Int) (ch:Bs) (σ:RS):LP×RS:=(⟨kind,(σ.need [63]).name.1,ch,.nil⟩,(σ.need [63]).name.2)
def writeF (ch:Bs) (σ:RS):LP×RS:=(⟨4,[],ch,(exprF 4 (σ.need [33])).1⟩,(exprF 4 (σ.need [33])).2)
def onNameF (nm:Bs) (σ:RS):LP×RS :=
 if σ.text=[58,61] then (⟨3,nm,[],(exprF 4 σ.next).1⟩,(exprF 4 σ.next).2)
 else if σ.text=[33] then writeF nm σ else readF 5 nm σ
def sourceF (σ:RS):Bs×RS:=if σ.text=wIn then (wIn,σ.next) else σ.name
def guardedF (g:PE) (σ:RS):LP×RS :=
 let s:=sourceF (σ.need [38])
 ({ (readF 14 s.1 s.2).1 with expr:=g },(readF 14 s.1 s.2).2)
def branchF (σ:RS):LP×RS :=
 if σ.text=wIn then readF 14 wIn σ.next
 else if σ.atName=false then guardedF (exprF 4 σ).1 (exprF 4 σ).2
 else if σ.name.2.text=[63] then readF 14 σ.name.1 σ.name.2
 else guardedF (fromF (operandF 4) (.var σ.name.1 0,σ.name.2)).1 (fromF (operandF 4) (.var σ.name.1 0,σ.name.2)).2
def bareF (k:Int) (σ:RS):LP×RS:=(⟨k,[],[],.nil⟩,σ.next)
def askF (k:Int) (σ:RS):LP×RS:=(⟨k,[],[],(exprF 4 σ.next).1⟩,(exprF 4 σ.next).2)
def declF (k:Int) (σ:RS):LP×RS:=(⟨k,σ.next.name.1,[],.nil⟩,σ.next.name.2)
def processF (σ:RS):LP×RS :=
 if σ.text=wSkip then bareF 1 σ
 else if σ.text=wStop then bareF 2 σ
 else if σ.text=wSeq then bareF 7 σ
 else if σ.text=wPar then bareF 8 σ
 else if σ.text=wPri then bareF 9 σ
 else if σ.text=wIf then bareF 11 σ
 else if σ.text=wAlt then bareF 13 σ
 else if σ.text=wWait then askF 6 σ
 else if σ.text=wWhile then askF 10 σ
 else if σ.text=wVar then declF 15 σ
 else if σ.text=wChan then declF 16 σ
 else if σ.text=wIn then readF 5 wIn σ.next
 else if σ.text=wOut then writeF wOut σ.next
 else onNameF σ.name.1 σ.name.2
def lineF (above:Int) (σ:RS):LP×RS :=
 if above=11 then (⟨12,[],[],(exprF 4 (σ.need wWhen)).1⟩,(exprF 4 (σ.need wWhen)).2)
 else if above=13 then branchF (σ.need wOn)
 else processF σ
def startF (body:Bs):RS:=(⟨0,[],body,0,0⟩:RS).next
def readLineF (body:Bs) (above:Int):LP×Int :=
 ((lineF above (startF body)).1,if (lineF above (startF body)).2.kind=0 then (lineF above (startF body)).2.errno else ((lineF above (startF body)).2.fail 2).errno)
theorem readF_ok (k:Int) (ch:Bs) {σ:RS} (h:σ.Ok):(readF k ch σ).2.Ok∧(readF k ch σ).2.opn=σ.opn :=
 ⟨(h.need _).name,(RS.name_opn _).trans (RS.need_opn _ _)⟩
theorem writeF_ok (ch:Bs) {σ:RS} (h:σ.Ok):(writeF ch σ).2.Ok∧(writeF ch σ).2.opn=σ.opn :=
 ⟨(exprF_ok 4 _ (h.need _)).1,(exprF_ok 4 _ (h.need _)).2.trans (RS.need_opn _ _)⟩
theorem onNameF_ok (nm:Bs) {σ:RS} (h:σ.Ok):(onNameF nm σ).2.Ok∧(onNameF nm σ).2.opn=σ.opn:=by
 unfold onNameF;split
 ·exact exprF_ok 4 _ h.next
 ·split
  ·exact writeF_ok nm h
  ·exact readF_ok 5 nm h
theorem sourceF_ok {σ:RS} (h:σ.Ok):(sourceF σ).2.Ok∧(sourceF σ).2.opn=σ.opn:=by
 unfold sourceF;split
 ·exact⟨h.next,rfl⟩
 ·exact⟨h.name,RS.name_opn _⟩
end Go.Proofs.YtnhidaamfnjdjaaGreatDoor
namespace Go.Proofs.YtnhidaamfnjdjaaGreatDoor
theorem getD_lt {α:Type} (l:List α) (i:Nat) (d:α) (h:i<l.length):l.getD i d=l[i]:=by simp [List.getD,h]
theorem getD_ge {α:Type} (l:List α) (i:Nat) (d:α) (h:l.length≤i):l.getD i d=d:=by simp [List.getD,List.getElem?_eq_none h]
structure PNode where
 kind:Int
 line:Int
 name:Bs
 nd:Int
 chan:Bs
 cd:Int
 expr:PE
 kids:List Nat
instance : Inhabited PNode := ⟨⟨0, 0, [], 0, [], 0, .nil, []⟩⟩
structure PS where
 nodes:List PNode
 chain:List Nat
def roomL (k:Int):Int :=
 if k=9 then 2 else if k=0∨k=10∨k=12∨k=14∨k=15∨k=16 then 1 else 0
def roomM (k:Int):Int :=
 if k=7∨k=8∨k=11∨k=13 then 1073741824 else if k=9 then 2 else if k=0∨k=10∨k=12∨k=14∨k=15∨k=16 then 1 else 0
def PS.at (s:PS) (i:Nat):PNode:=s.nodes.getD i default
def PS.full (s:PS) (i:Nat):Bool:=decide (roomL (s.at i).kind≤((s.at i).kids.length:Int))
def PS.complete (s:PS) (d:Nat):Bool:=(s.chain.drop d).all s.full
def PS.above (s:PS) (d:Nat):Nat:=s.chain.getD d 0
def PS.fits (s:PS) (d:Nat):Bool :=
 decide (d<s.chain.length)&&s.complete (d+1)&&decide (((s.at (s.above d)).kids.length:Int)<roomM (s.at (s.above d)).kind)
def newNode (p:LP) (number:Int):PNode:=⟨p.kind,number,p.name,0,p.chan,0,p.expr,[]⟩
def addKid (k:Nat) (n:PNode):PNode:={ n with kids:=n.kids++[k] }
def PS.put (s:PS) (d:Nat) (p:LP) (number:Int):PS :=
 {nodes:=s.nodes.set (s.above d) (addKid s.nodes.length (s.at (s.above d)))++[newNode p number]
  chain:=s.chain.take (d+1)++[s.nodes.length] }
def PS.add (s:PS) (line:Bs) (number:Int):PS×Int :=
 if trimB line=[] then (s,0)
 else if 10<(line.length - (trimB line).length) / 2 then (s,3)
 else if (line.length - (trimB line).length) % 2≠0∨s.fits ((line.length - (trimB line).length) / 2)=false then (s,2)
 else
  let d:=(line.length - (trimB line).length) / 2
  let r:=readLineF (trimB line) (s.at (s.above d)).kind
  if r.2≠0 then (s,r.2) else (s.put d r.1 number,0)
def startP:PS:=⟨[⟨0,0,[],0,[],0,.nil,[]⟩],[0]⟩
structure PS.Ok (s:PS):Prop where
 chain:∀ i∈s.chain,i<s.nodes.length
 kids:∀ n∈s.nodes,∀ k∈n.kids,k<s.nodes.length
 pos:s.chain≠[]
 short:s.chain.length≤12
 few:∀ n∈s.nodes,n.kids.length≤s.nodes.length
theorem startP_ok:startP.Ok:=⟨by simp [startP],by simp [startP],by simp [startP],by simp [startP],by simp [startP]⟩
theorem PS.Ok.put {s:PS} (h:s.Ok) (d:Nat) (hd:d≤10) (p:LP) (number:Int):(s.put d p number).Ok where
 chain:=by
  intro i hi
  simp only [PS.put,List.mem_append,List.mem_singleton,List.length_append,List.length_set,List.length_singleton] at hi ⊢
  rcases hi with hi|rfl
  ·have:=h.chain i (List.mem_of_mem_take hi);omega
  ·omega
 kids:=by
  intro n hn k hk
  simp only [PS.put,List.mem_append,List.mem_singleton,List.length_append,List.length_set,List.length_singleton] at hn ⊢
  rcases hn with hn|rfl
  ·rcases List.mem_or_eq_of_mem_set hn with hn|rfl
   ·have:=h.kids n hn k hk;omega
   ·simp only [addKid,List.mem_append,List.mem_singleton] at hk
    rcases hk with hk|rfl
    ·by_cases ha:s.above d<s.nodes.length
     ·have hm:s.at (s.above d)∈s.nodes:=by
       unfold PS.at;rw [getD_lt _ _ _ ha];exact List.getElem_mem ha
      have:=h.kids _ hm k hk;omega
     ·have:s.at (s.above d)=default:=by
       unfold PS.at;rw [getD_ge _ _ _ (by omega)]
      rw [this] at hk
      exact absurd hk (by simp [default])
    ·omega
  ·simp [newNode] at hk
 pos:=by simp [PS.put]
 short:=by simp [PS.put];omega
 few:=by
  intro n hn
  simp only [PS.put,List.mem_append,List.mem_singleton,List.length_append,List.length_set,List.length_singleton] at hn ⊢
  rcases hn with hn|rfl
  ·rcases List.mem_or_eq_of_mem_set hn with hn|rfl
   ·have:=h.few n hn;omega
   ·simp only [addKid,List.length_append,List.length_singleton]
    by_cases ha:s.above d<s.nodes.length
    ·have hm:s.at (s.above d)∈s.nodes:=by
      unfold PS.at;rw [getD_lt _ _ _ ha];exact List.getElem_mem ha
     have:=h.few _ hm;omega
    ·have:s.at (s.above d)=default:=by
      unfold PS.at;rw [getD_ge _ _ _ (by omega)]
     rw [this];simp [default]
  ·simp [newNode]
theorem PS.fits_lt {s:PS} {d:Nat} (h:s.fits d=true):d<s.chain.length:=by
 unfold PS.fits at h;simp at h;exact h.1.1
theorem PS.Ok.above {s:PS} (h:s.Ok) {d:Nat} (hd:d<s.chain.length):s.above d<s.nodes.length:=by
 unfold PS.above
 rw [getD_lt _ _ _ hd]
 exact h.chain _ (List.getElem_mem hd)
theorem PS.Ok.add {s:PS} (h:s.Ok) (l:Bs) (n:Int):(s.add l n).1.Ok:=by
 unfold PS.add
 split
 ·exact h
 ·split
  ·exact h
  ·split
   ·exact h
   ·dsimp only
    split
    ·exact h
    ·rename_i h2 _ _
     exact h.put _ (by omega) _ _
theorem PS.add_len (s:PS) (l:Bs) (n:Int):(s.add l n).1.nodes.length≤s.nodes.length+1:=by
 unfold PS.add
 split
 ·simp
 ·split
  ·simp
  ·split
   ·simp
   ·dsimp only
    split
    ·simp
    ·simp [PS.put]
def upTo (ls:List Bs):Nat->PS
 | 0=>startP
 | k+1=>((upTo ls k).add (ls.getD k []) ((k:Int)+1)).1
def errAt (ls:List Bs) (k:Nat):Int:=((upTo ls k).add (ls.getD k []) ((k:Int)+1)).2
theorem upTo_ok (ls:List Bs):∀ k,(upTo ls k).Ok
 | 0=>startP_ok
 | k+1=>(upTo_ok ls k).add _ _
theorem upTo_len (ls:List Bs):∀ k,(upTo ls k).nodes.length≤k+1
 | 0=>by simp [upTo,startP]
 | k+1=>Nat.le_trans (PS.add_len _ _ _) (by have:=upTo_len ls k;omega)
def firstErr (ls:List Bs):Nat->Nat->Option (Nat×Int)
 | 0,_=>none
 | n+1,k=>if errAt ls k≠0 then some (k,errAt ls k) else firstErr ls n (k+1)
def parseF (text:Bs) (ls:List Bs):Option PS×Int×Int :=
 if 800<text.length then (none,1,0)
 else match firstErr ls ls.length 0 with
  | some (k,e)=>(none,e,(k:Int)+1)
  | none=>if (upTo ls ls.length).complete 0 then (some (upTo ls ls.length),0,0) else (none,2,(ls.length:Int)+1)
theorem firstErr_some (ls:List Bs):∀ (n k j:Nat),(∀ i,k≤i->i<j->errAt ls i=0)->k≤j->j<k+n->errAt ls j≠0->firstErr ls n k=some (j,errAt ls j)
 | 0,k,j,_,h1,h2,_=>by omega
 | n+1,k,j,h,h1,h2,h3=>by
  unfold firstErr
  by_cases e:k=j
  ·subst e;rw [if_pos h3]
  ·rw [if_neg (by simpa using h k (Nat.le_refl _) (by omega))]
   exact firstErr_some ls n (k+1) j (fun i a b=>h i (by omega) b) (by omega) (by omega) h3
theorem firstErr_none (ls:List Bs):∀ (n k:Nat),(∀ i,k≤i->i<k+n->errAt ls i=0)->firstErr ls n k=none
 | 0,_,_=>rfl
 | n+1,k,h=>by
  unfold firstErr
  rw [if_neg (by simpa using h k (Nat.le_refl _) (by omega))]
  exact firstErr_none ls n (k+1) (fun i a b=>h i (by omega) (by omega))
theorem parseF_err (text:Bs) (ls:List Bs) (h:text.length≤800) (j:Nat) (hj:j<ls.length) (h1:∀ i,i<j->errAt ls i=0) (h2:errAt ls j≠0):parseF text ls=(none,errAt ls j,(j:Int)+1):=by
 unfold parseF
 rw [if_neg (by omega),firstErr_some ls _ 0 j (fun i _ hi=>h1 i hi) (Nat.zero_le _) (by omega) h2]
theorem parseF_open (text:Bs) (ls:List Bs) (h:text.length≤800) (h1:∀ i,i<ls.length->errAt ls i=0) (h2:(upTo ls ls.length).complete 0=false):parseF text ls=(none,2,(ls.length:Int)+1):=by
 unfold parseF
 rw [if_neg (by omega),firstErr_none ls _ 0 (fun i _ hi=>h1 i (by omega))]
 simp [h2]
theorem parseF_done (text:Bs) (ls:List Bs) (h:text.length≤800) (h1:∀ i,i<ls.length->errAt ls i=0) (h2:(upTo ls ls.length).complete 0=true):parseF text ls=(some (upTo ls ls.length),0,0):=by
 unfold parseF
 rw [if_neg (by omega),firstErr_none ls _ 0 (fun i _ hi=>h1 i (by omega))]
 simp [h2]
theorem upTo_first (ls:List Bs):∀ k,(upTo ls k).chain.head?=some 0∧(upTo ls k).nodes≠[]∧((upTo ls k).at 0).kind=0
 | 0=>by simp [upTo,startP,PS.at]
 | k+1=>by
  have ih:=upTo_first ls k
  have ok:=upTo_ok ls k
  show ((upTo ls k).add _ _).1.chain.head?=some 0∧((upTo ls k).add _ _).1.nodes≠[]∧(((upTo ls k).add _ _).1.at 0).kind=0
  generalize upTo ls k=s at ih ok
  unfold PS.add
  split
  ·exact ih
  ·split
   ·exact ih
   ·split
    ·exact ih
    ·dsimp only
     split
     ·exact ih
     ·generalize (List.length (ls.getD k []) - List.length (trimB (ls.getD k []))) / 2=d
      refine⟨?_,by simp [PS.put],?_⟩
      ·have hpos:=ok.pos
       simp only [PS.put]
       cases hc:s.chain with
       | nil=>exact absurd hc hpos
       | cons a l=>rw [hc] at ih;simpa using ih.1
      ·have hlen:0<s.nodes.length:=List.length_pos_iff.2 ih.2.1
       unfold PS.at PS.put
       rw [getD_lt _ _ _ (by simp)]
       rw [List.getElem_append_left (by simpa using hlen),List.getElem_set]
       have h3:=ih.2.2
       unfold PS.at at h3
       rw [getD_lt _ _ _ hlen] at h3
       split
       ·rename_i h0
        show (s.at (s.above d)).kind=0
        unfold PS.at;rw [h0,getD_lt _ _ _ hlen];exact h3
       ·exact h3
theorem root_lt (ls:List Bs) (k:Nat) (h:(upTo ls k).complete 0=true):0<((upTo ls k).at 0).kids.length∧0<(upTo ls k).chain.length:=by
 obtain⟨h1,h2,h3⟩:=upTo_first ls k
 have hc:0∈(upTo ls k).chain:=by
  cases hc:(upTo ls k).chain with
  | nil=>rw [hc] at h1;simp at h1
  | cons a l=>rw [hc] at h1;simp at h1;subst h1;simp
 unfold PS.complete at h
 rw [List.all_eq_true] at h
 have:=h 0 (by simpa using hc)
 unfold PS.full at this
 rw [h3] at this
 simp [roomL] at this
 exact⟨by omega,List.length_pos_iff.2 (List.ne_nil_of_mem hc)⟩
end Go.Proofs.YtnhidaamfnjdjaaGreatDoor
namespace Go.Proofs.YtnhidaamfnjdjaaGreatDoor
open Go.RowKit
structure DC where
 text:Bs
 kind:Int
 num:Int
structure RV where
 hold:List DC
 next:Int
 line:Int
def nearestF:List DC->Bs->DC
 | [],_=>⟨[],0,0⟩
 | d :: l,t=>if (l.any fun x=>x.text == t) then nearestF l t else if d.text == t then d else ⟨[],0,0⟩
def resolveF (r:RV) (t:Bs) (old must line:Int):RV×Int :=
 if (nearestF r.hold t).kind=must then (r,(nearestF r.hold t).num) else ({ r with line:=if r.line=0 then line else r.line },old)
def eachF (line:Int):RV->PE->RV×PE
 | r,.nil=>(r,.nil)
 | r,.num v=>(r,.num v)
 | r,.var n d=>((resolveF r n d 15 line).1,.var n (resolveF r n d 15 line).2)
 | r,.pair op a b=>((eachF line (eachF line r a).1 b).1,.pair op (eachF line r a).2 (eachF line (eachF line r a).1 b).2)
def nameOf (r:RV) (n:PNode):RV×PNode:=((resolveF r n.name n.nd 15 n.line).1,{ n with nd:=(resolveF r n.name n.nd 15 n.line).2 })
def chanOf (r:RV) (n:PNode):RV×PNode:=((resolveF r n.chan n.cd 16 n.line).1,{ n with cd:=(resolveF r n.chan n.cd 16 n.line).2 })
def headOf (r:RV) (n:PNode):RV×PNode :=
 if n.kind=3 then nameOf r n
 else if n.kind=4 then chanOf r n
 else if n.kind=5∨n.kind=14 then nameOf (chanOf r n).1 (chanOf r n).2
 else (r,n)
def exprOf (r:RV) (n:PNode):RV×PNode:=((eachF n.line r n.expr).1,{ n with expr:=(eachF n.line r n.expr).2 })
def pushF (r:RV) (n:PNode):RV:={ r with next:=wrap64 (r.next+1),hold:=r.hold++[⟨n.name,n.kind,r.next⟩] }
def nameF:Nat->RV×List PNode->Nat->RV×List PNode
 | 0,st,_=>st
 | f+1,st,i =>
  let n:=st.2.getD i default
  if n.kind=15∨n.kind=16 then
   let q:=n.kids.foldl (nameF f) (pushF st.1 n,st.2.set i { n with nd:=st.1.next })
   ({ q.1 with hold:=q.1.hold.dropLast },q.2)
  else
   let h:=headOf st.1 n
   let x:=exprOf h.1 h.2
   n.kids.foldl (nameF f) (x.1,st.2.set i x.2)
def startR:RV:=⟨[⟨wIn,16,1⟩,⟨wOut,16,2⟩],3,0⟩
theorem nearest_append (l:List DC) (d:DC) (t:Bs):nearestF (l++[d]) t=if d.text == t then d else nearestF l t:=by
 induction l with
 | nil=>simp [nearestF]
 | cons a l ih =>
  simp only [List.cons_append,nearestF,List.any_append,List.any_cons,List.any_nil,Bool.or_false]
  by_cases h:(d.text == t)=true
  ·simp [h,ih]
  ·have h':(d.text == t)=false:=by simpa using h
   simp only [h',Bool.or_false,ih]
   by_cases h2:(l.any fun x=>x.text == t)=true
   ·simp [h2]
   ·simp [h2]
theorem nearest_take (l:List DC) (t:Bs) (k:Nat) (hk:k<l.length) (h:(l[k].text == t)=true) (hn:∀ j,k<j->(hj:j<l.length)->(l[j].text == t)=false):nearestF l t=l[k]:=by
 induction l generalizing k with
 | nil=>simp at hk
 | cons a l ih =>
  cases k with
  | zero =>
   have h0:(l.any fun x=>x.text == t)=false:=by
    rw [List.any_eq_false]
    intro x hx
    obtain⟨j,hj,rfl⟩:=List.getElem_of_mem hx
    have:=hn (j+1) (by omega) (by simpa using hj)
    simpa using this
   simp only [List.getElem_cons_zero] at h ⊢
   simp [nearestF,h0,h]
  | succ k =>
   have hk':k<l.length:=by simpa using hk
   have h1:(l.any fun x=>x.text == t)=true:=by
    rw [List.any_eq_true]
    exact⟨l[k],List.getElem_mem hk',by simpa using h⟩
   simp only [nearestF,h1,if_true,List.getElem_cons_succ] at h ⊢
   exact ih k hk' h (fun j hj hl=>by have:=hn (j+1) (by omega) (by simpa using hl);simpa using this)
theorem nearest_none (l:List DC) (t:Bs) (hn:∀ j (hj:j<l.length),(l[j].text == t)=false):nearestF l t=⟨[],0,0⟩:=by
 induction l with
 | nil=>rfl
 | cons a l ih =>
  have h0:(l.any fun x=>x.text == t)=false:=by
   rw [List.any_eq_false]
   intro x hx
   obtain⟨j,hj,rfl⟩:=List.getElem_of_mem hx
   have:=hn (j+1) (by simpa using hj)
   simpa using this
  have h1:=hn 0 (by simp)
  simp only [List.getElem_cons_zero] at h1
  simp [nearestF,h0,h1]
structure SameShape (ns ns':List PNode):Prop where
 len:ns'.length=ns.length
 kids:∀ i,(ns'.getD i default).kids=(ns.getD i default).kids
 kind:∀ i,(ns'.getD i default).kind=(ns.getD i default).kind
theorem SameShape.refl (ns:List PNode):SameShape ns ns:=⟨rfl,fun _=>rfl,fun _=>rfl⟩
theorem SameShape.trans {a b c:List PNode} (h:SameShape a b) (k:SameShape b c):SameShape a c:=⟨k.len.trans h.len,fun i=>(k.kids i).trans (h.kids i),fun i=>(k.kind i).trans (h.kind i)⟩
theorem SameShape.set (ns:List PNode) (i:Nat) (n:PNode) (hk:n.kids=(ns.getD i default).kids) (hd:n.kind=(ns.getD i default).kind):SameShape ns (ns.set i n):=by
 have key:∀ j,(ns.set i n).getD j default=if i=j∧j<ns.length then n else ns.getD j default:=by
  intro j
  simp only [List.getD,List.getElem?_set]
  by_cases e:i=j
  ·subst e
   by_cases hl:i<ns.length
   ·simp [hl]
   ·simp [hl]
  ·simp [e]
 refine⟨by simp,fun j=>?_,fun j=>?_⟩
 all_goals
  rw [key j]
  split
  ·rename_i h;obtain⟨rfl,_⟩:=h;assumption
  ·rfl
theorem headOf_same (r:RV) (n:PNode):(headOf r n).2.kids=n.kids∧(headOf r n).2.kind=n.kind∧(headOf r n).2.expr=n.expr∧(headOf r n).2.line=n.line∧(headOf r n).1.hold=r.hold:=by
 have hr:∀ (r:RV) (t:Bs) (a b c:Int),(resolveF r t a b c).1.hold=r.hold:=by intro r t a b c;unfold resolveF;split <;> rfl
 unfold headOf nameOf chanOf
 split
 ·exact⟨rfl,rfl,rfl,rfl,hr _ _ _ _ _⟩
 ·split
  ·exact⟨rfl,rfl,rfl,rfl,hr _ _ _ _ _⟩
  ·split
   ·exact⟨rfl,rfl,rfl,rfl,(hr _ _ _ _ _).trans (hr _ _ _ _ _)⟩
   ·exact⟨rfl,rfl,rfl,rfl,rfl⟩
theorem eachF_hold' (line:Int):∀ (e:PE) (r:RV),(eachF line r e).1.hold=r.hold
 | .nil,_=>rfl
 | .num _,_=>rfl
 | .var _ _,_=>by show (resolveF _ _ _ _ _).1.hold=_;unfold resolveF;split <;> rfl
 | .pair _ a b,r=>(eachF_hold' line b _).trans (eachF_hold' line a r)
theorem fold_keep {β:Type} (P:β->β->Prop) (hr:∀ x,P x x) (ht:∀ x y z,P x y->P y z->P x z) (f:β->Nat->β) (hf:∀ x k,P x (f x k)) (l:List Nat) (x:β):P x (l.foldl f x):=by
 induction l generalizing x with
 | nil=>exact hr x
 | cons a l ih=>exact ht _ _ _ (hf x a) (ih _)
theorem nameF_keep:∀ (f:Nat) (st:RV×List PNode) (i:Nat),SameShape st.2 (nameF f st i).2∧(nameF f st i).1.hold=st.1.hold
 | 0,st,_=>⟨SameShape.refl _,rfl⟩
 | f+1,st,i=>by
  have ih:∀ (l:List Nat) (x:RV×List PNode),SameShape x.2 (l.foldl (nameF f) x).2∧(l.foldl (nameF f) x).1.hold=x.1.hold :=
   fun l x=>fold_keep (fun x y:RV×List PNode=>SameShape x.2 y.2∧y.1.hold=x.1.hold) (fun x=>⟨SameShape.refl _,rfl⟩) (fun x y z h k=>⟨h.1.trans k.1,k.2.trans h.2⟩) (nameF f) (fun x k=>nameF_keep f x k) l x
  unfold nameF
  dsimp only
  split
  ·have h:=ih (st.2.getD i default).kids (pushF st.1 (st.2.getD i default),st.2.set i { st.2.getD i default with nd:=st.1.next })
   refine⟨(SameShape.set st.2 i { st.2.getD i default with nd:=st.1.next } rfl rfl).trans h.1,?_⟩
   show List.dropLast _=_
   rw [h.2]
   simp [pushF]
  ·have hh:=headOf_same st.1 (st.2.getD i default)
   have h:=ih (st.2.getD i default).kids ((exprOf (headOf st.1 (st.2.getD i default)).1 (headOf st.1 (st.2.getD i default)).2).1,st.2.set i (exprOf (headOf st.1 (st.2.getD i default)).1 (headOf st.1 (st.2.getD i default)).2).2)
   refine⟨(SameShape.set st.2 i (exprOf (headOf st.1 (st.2.getD i default)).1 (headOf st.1 (st.2.getD i default)).2).2 hh.1 hh.2.1).trans h.1,?_⟩
   rw [h.2]
   show (eachF _ _ _).1.hold=_
   rw [eachF_hold'];exact hh.2.2.2.2
end Go.Proofs.YtnhidaamfnjdjaaGreatDoor
namespace Go.Proofs.YtnhidaamfnjdjaaGreatDoor
open Go.RowKit
def useAt (l:List (Int×Nat)) (k:Int):Nat:=l.foldl (fun a p=>if p.1=k then a ||| p.2 else a) 0
def clashN (a b:Nat):Bool:=!(a == 0 || b == 0)&&(!(((a ||| b) &&& 1) == 0) || !(((a &&& b) &&& 12) == 0))
def clashL (l l':List (Int×Nat)):Bool:=l.any fun p=>clashN (useAt l p.1) (useAt l' p.1)
theorem useFold_or (l:List (Int×Nat)) (k:Int):∀ a,l.foldl (fun a p=>if p.1=k then a ||| p.2 else a) a=a ||| useAt l k:=by
 induction l with
 | nil=>intro a;simp [useAt]
 | cons p l ih =>
  intro a
  unfold useAt
  simp only [List.foldl_cons]
  rw [ih,ih (if p.1=k then 0 ||| p.2 else 0)]
  split
  ·simp [Nat.or_assoc]
  ·simp
theorem useAt_append (l l':List (Int×Nat)) (k:Int):useAt (l++l') k=useAt l k ||| useAt l' k:=by
 show List.foldl _ _ _=_
 rw [List.foldl_append]
 exact useFold_or l' k _
theorem useAt_one (d:Int) (h:Nat) (k:Int):useAt [(d,h)] k=if d=k then h else 0:=by
 unfold useAt;simp
theorem useAt_none (l:List (Int×Nat)) (k:Int) (h:∀ p∈l,p.1≠k):useAt l k=0:=by
 induction l with
 | nil=>rfl
 | cons p l ih =>
  have e:(p :: l)=[p]++l:=rfl
  rw [e,useAt_append,ih (fun q hq=>h q (List.mem_cons_of_mem _ hq)),useAt_one,if_neg (h p (by simp))]
  rfl
def UseOk (l:List (Int×Nat)):Prop:=∀ p∈l,(0≤p.1∧p.1<2000)∧p.2<16
theorem UseOk.append {l l':List (Int×Nat)} (h:UseOk l) (h':UseOk l'):UseOk (l++l'):=by
 intro p hp
 rcases List.mem_append.1 hp with hp|hp
 ·exact h p hp
 ·exact h' p hp
theorem useAt_lt (l:List (Int×Nat)) (h:UseOk l) (k:Int):useAt l k<16:=by
 induction l with
 | nil=>simp [useAt]
 | cons p l ih =>
  have e:(p :: l)=[p]++l:=rfl
  rw [e,useAt_append,useAt_one]
  have h1:=ih (fun q hq=>h q (List.mem_cons_of_mem _ hq))
  have h2:=(h p (by simp)).2
  have h3:(if p.1=k then p.2 else 0)<2 ^ 4:=by split <;> omega
  exact Nat.or_lt_two_pow h3 h1
theorem clashL_iff (l l':List (Int×Nat)):clashL l l'=true↔∃ k,clashN (useAt l k) (useAt l' k)=true:=by
 unfold clashL
 rw [List.any_eq_true]
 constructor
 ·rintro⟨p,_,h⟩;exact⟨_,h⟩
 ·rintro⟨k,h⟩
  by_cases hk:∃ p∈l,p.1=k
  ·obtain⟨p,hp,rfl⟩:=hk;exact⟨p,hp,h⟩
  ·rw [useAt_none l k (fun p hp e=>hk ⟨p,hp,e⟩)] at h
   simp [clashN] at h
def asks:PE->List (Int×Nat)
 | .nil=>[]
 | .num _=>[]
 | .var _ d=>[(d,2)]
 | .pair _ a b=>asks a++asks b
def headU (n:PNode):List (Int×Nat) :=
 if n.kind=3 then [(n.nd,1)] else if n.kind=4 then [(n.cd,4)] else if n.kind=5∨n.kind=14 then [(n.cd,8),(n.nd,1)] else []
def ownU (n:PNode):List (Int×Nat):=headU n++asks n.expr
theorem wraps_i64 (n:Int) (h₀:0≤n) (h₁:n<2 ^ 63):IntKind.i64.wrap n=n:=by rw [IntKind.wrap_i64];omega
theorem or_nat (a b:Nat) (ha:a<16) (hb:b<16):bits .or .i64 (a:Int) (b:Int)=((a ||| b:Nat):Int):=(bits_nat .i64 63 (by decide) wraps_i64 a b (by omega) (by omega)).2
theorem and_nat (a b:Nat) (ha:a<16) (hb:b<16):bits .and .i64 (a:Int) (b:Int)=((a &&& b:Nat):Int):=(bits_nat .i64 63 (by decide) wraps_i64 a b (by omega) (by omega)).1
theorem few_below:∀ (K:Nat) (l:List Int),l.Pairwise (·≠·)->(∀ x∈l,0≤x∧x<(K:Int))->l.length≤K
 | 0,l,_,h=>by
  cases l with
  | nil=>simp
  | cons a l=>have:=h a (by simp);omega
 | K+1,l,hp,h=>by
  have h1:=few_below K (l.filter (fun x=>decide (x≠(K:Int)))) (hp.filter _) (by
   intro x hx
   rw [List.mem_filter] at hx
   have:=h x hx.1
   have h2:x≠(K:Int):=by simpa using hx.2
   omega)
  have h2:∀ (l:List Int),l.Pairwise (·≠·)->l.length≤(l.filter (fun x=>decide (x≠(K:Int)))).length+1:=by
   intro l
   induction l with
   | nil=>simp
   | cons a l ih =>
    intro hp
    rw [List.pairwise_cons] at hp
    have:=ih hp.2
    by_cases e:a=(K:Int)
    ·have:l.filter (fun x=>decide (x≠(K:Int)))=l:=by
      rw [List.filter_eq_self]
      intro x hx
      have:=hp.1 x hx
      simp;omega
     rw [List.filter_cons_of_neg (by simpa using e),this];simp
    ·rw [List.filter_cons_of_pos (by simpa using e),List.length_cons,List.length_cons];omega
  have:=h2 l hp
  omega
end Go.Proofs.YtnhidaamfnjdjaaGreatDoor
namespace Go.Proofs.YtnhidaamfnjdjaaGreatDoor
def anyTwo (us:List (List (Int×Nat))):Bool:=(List.range us.length).any fun i=>(List.range i).any fun j=>clashL (us.getD i []) (us.getD j [])
def foundF (s line:Int):Int:=if s=0∨line<s then line else s
def shareF (ns:List PNode):Nat->Int->Nat->List (Int×Nat)×Int
 | 0,s,_=>([],s)
 | f+1,s,i =>
  let n:=ns.getD i default
  let q:=n.kids.foldl (fun (a:List (List (Int×Nat))×Int) k=>(a.1++[(shareF ns f a.2 k).1],(shareF ns f a.2 k).2)) ([],s)
  (ownU n++q.1.flatten,if (n.kind=8∨n.kind=9)∧anyTwo q.1=true then foundF q.2 n.line else q.2)
def stepS (ns:List PNode) (f:Nat) (a:List (List (Int×Nat))×Int) (k:Nat):List (List (Int×Nat))×Int:=(a.1++[(shareF ns f a.2 k).1],(shareF ns f a.2 k).2)
def restS (n:PNode) (q:List (List (Int×Nat))×Int):List (Int×Nat)×Int :=
 (ownU n++q.1.flatten,if (n.kind=8∨n.kind=9)∧anyTwo q.1=true then foundF q.2 n.line else q.2)
theorem shareF_succ (ns:List PNode) (f:Nat) (s:Int) (i:Nat):shareF ns (f+1) s i=restS (ns.getD i default) ((ns.getD i default).kids.foldl (stepS ns f) ([],s)):=rfl
theorem stepS_len (ns:List PNode) (f:Nat):∀ (l:List Nat) (a:List (List (Int×Nat))×Int),(l.foldl (stepS ns f) a).1.length=a.1.length+l.length
 | [],a=>by simp
 | k :: l,a=>by
  rw [List.foldl_cons,stepS_len ns f l];simp [stepS];omega
theorem UseOk.flat {us:List (List (Int×Nat))} (h:∀ u∈us,UseOk u):UseOk us.flatten:=by
 intro p hp
 obtain⟨u,hu,hpu⟩:=List.mem_flatten.1 hp
 exact h u hu p hpu
theorem stepS_ok (ns:List PNode) (f:Nat) (hf:∀ s i,UseOk (shareF ns f s i).1):∀ (l:List Nat) (a:List (List (Int×Nat))×Int),(∀ u∈a.1,UseOk u)->∀ u∈(l.foldl (stepS ns f) a).1,UseOk u
 | [],a,h=>h
 | k :: l,a,h=>by
  rw [List.foldl_cons]
  refine stepS_ok ns f hf l _ ?_
  intro u hu
  simp only [stepS,List.mem_append,List.mem_singleton] at hu
  rcases hu with hu|rfl
  ·exact h u hu
  ·exact hf _ _
theorem shareF_ok (ns:List PNode) (h:∀ i,UseOk (ownU (ns.getD i default))):∀ f s i,UseOk (shareF ns f s i).1
 | 0,_,_=>fun p hp=>by simp [shareF] at hp
 | f+1,s,i=>by
  rw [shareF_succ]
  exact (h i).append (UseOk.flat (stepS_ok ns f (shareF_ok ns h f) _ _ (by simp)))
theorem anyTwo_false (us:List (List (Int×Nat))) (h:∀ i,i<us.length->∀ j,j<i->clashL (us.getD i []) (us.getD j [])=false):anyTwo us=false:=by
 unfold anyTwo
 rw [List.any_eq_false]
 intro i hi
 rw [Bool.not_eq_true,List.any_eq_false]
 intro j hj
 rw [Bool.not_eq_true]
 exact h i (List.mem_range.1 hi) j (List.mem_range.1 hj)
theorem anyTwo_true (us:List (List (Int×Nat))) (i j:Nat) (hi:i<us.length) (hj:j<i) (h:clashL (us.getD i []) (us.getD j [])=true):anyTwo us=true:=by
 unfold anyTwo
 rw [List.any_eq_true]
 refine⟨i,List.mem_range.2 hi,?_⟩
 rw [List.any_eq_true]
 exact⟨j,List.mem_range.2 hj,h⟩
end Go.Proofs.YtnhidaamfnjdjaaGreatDoor
namespace Go.Proofs.YtnhidaamfnjdjaaGreatDoor
open Go.RowKit Go.Maps
def linesF (text:Bs):List Bs:=Lib.split text [10]
def rootOf (s:PS):Nat:=(s.at 0).kids.getD 0 0
def Up (ns:List PNode):Prop:=∀ i,∀ k∈(ns.getD i default).kids,i<k∧k<ns.length
theorem Up.shape {a b:List PNode} (h:Up a) (s:SameShape a b):Up b:=by
 intro i k hk
 rw [s.kids i] at hk
 rw [s.len]
 exact h i k hk
def namedF (s:PS):RV×List PNode:=nameF s.nodes.length (startR,s.nodes) (rootOf s)
def checkF (text:Bs):Int×Int :=
 match parseF text (linesF text) with
 | (some s,_,_) =>
  if (namedF s).1.line≠0 then (4,(namedF s).1.line)
  else if (shareF (namedF s).2 (namedF s).2.length 0 (rootOf s)).2≠0 then (5,(shareF (namedF s).2 (namedF s).2.length 0 (rootOf s)).2)
  else (0,0)
 | (none,e,l)=>(e,l)
structure GoodP (s:PS):Prop where
 up:Up s.nodes
 root:rootOf s<s.nodes.length
 few:s.nodes.length≤1000
 kids:∀ i,(s.nodes.getD i default).kids.length≤1000
 uses:∀ i,UseOk (ownU ((namedF s).2.getD i default))
def Good (text:Bs):Prop:=∀ s,(parseF text (linesF text)).1=some s->GoodP s
theorem parseF_code (text:Bs) (ls:List Bs) (h:(parseF text ls).1=none):(parseF text ls).2.1≠0:=by
 have key:∀ n k j e,firstErr ls n k=some (j,e)->e≠0:=by
  intro n
  induction n with
  | zero=>intro k j e h;simp [firstErr] at h
  | succ n ih =>
   intro k j e h
   unfold firstErr at h
   split at h
   ·rename_i h1;injection h with h;injection h with _ h;subst h;exact h1
   ·exact ih _ _ _ h
 unfold parseF at h ⊢
 split
 ·decide
 ·rename_i h1
  rw [if_neg h1] at h
  split
  ·rename_i k e hk;exact key _ _ _ _ hk
  ·rename_i hk
   rw [hk] at h
   simp only at h
   split
   ·rename_i h2;rw [if_pos h2] at h;cases h
   ·show (2:Int)≠0
    decide
theorem parseF_some (text:Bs) (ls:List Bs) (s:PS) (h:(parseF text ls).1=some s):parseF text ls=(some s,0,0):=by
 unfold parseF at h ⊢
 split
 ·rename_i h1;rw [if_pos h1] at h;cases h
 ·rename_i h1
  rw [if_neg h1] at h
  split
  ·rename_i hk;rw [hk] at h;cases h
  ·rename_i hk
   rw [hk] at h
   simp only at h
   split
   ·rename_i h2;rw [if_pos h2] at h;injection h with h;subst h;rfl
   ·rename_i h2;rw [if_neg h2] at h;cases h
end Go.Proofs.YtnhidaamfnjdjaaGreatDoor
namespace Go.Proofs.YtnhidaamfnjdjaaGreatDoor
open Go.RowKit Go.Maps
structure CM where
 code:List (Int×Int)
 br:List (Int×Int×Int)
 room:Int
def CM.add (s:CM) (k a:Int):CM:={ s with code:=s.code++[(k,a)] }
def CM.aim (s:CM) (i:Nat):CM:={ s with code:=s.code.set i ((s.code.getD i (0,0)).1,(s.code.length:Int)) }
def CM.aims (s:CM) (l:List Nat):CM:=l.foldl CM.aim s
def CM.land (s:CM) (j:Nat):CM:={ s with br:=s.br.set j ((s.br.getD j (0,0,0)).1,(s.br.getD j (0,0,0)).2.1,(s.code.length:Int)) }
def opK (op:UInt8):Int :=
 if op=43 then 3 else if op=45 then 4 else if op=42 then 5 else if op=47 then 6 else if op=37 then 7 else if op=61 then 8 else if op=60 then 9 else 10
def exprM:PE->CM->CM
 | .nil,s=>s
 | .num v,s=>s.add 1 v
 | .var _ d,s=>s.add 2 d
 | .pair op l r,s=>(exprM r (exprM l s)).add (opK op) 0
def fullE:PE->Bool
 | .nil=>false
 | .num _=>true
 | .var _ _=>true
 | .pair _ l r=>fullE l&&fullE r
def sizeE:PE->Nat
 | .nil=>0
 | .num _=>1
 | .var _ _=>1
 | .pair _ l r=>sizeE l+sizeE r+1
def LineOk (n:PNode):Prop:=((n.kind=3∨n.kind=4∨n.kind=6)->fullE n.expr=true)∧(n.kind=5->n.expr=.nil∨fullE n.expr=true)
def branchM (n:PNode) (s:CM):CM :=
 let s1:CM:={ s with br:=s.br++[(n.cd,n.nd,0)] }
 match n.expr with
 | .nil=>s1.add 15 (s.br.length:Int)
 | e=>(((exprM e s1).add 18 0).add 15 (s.br.length:Int)).aim (exprM e s1).code.length
def lineM (n:PNode) (s:CM):CM :=
 let s:=s.add 0 0
 if n.kind=2 then s.add 20 0
 else if n.kind=3 then (exprM n.expr s).add 12 n.nd
 else if n.kind=6 then (exprM n.expr s).add 17 0
 else if n.kind=4 then (if n.cd=2 then (exprM n.expr s).add 13 0 else (exprM n.expr s).add 14 n.cd)
 else if n.kind=5 then ((branchM n s).add 16 0).land s.br.length
 else s
section Make
variable (T : List PNode)
def whenM (below:Nat->CM->CM) (s:CM×List Nat) (k:Nat):CM×List Nat :=
 let s1:=exprM (T.getD k default).expr s.1
 let s2:=below k (s1.add 18 0)
 ((s2.add 19 0).aim s1.code.length,s.2++[s2.code.length])
def onM (s:CM×List Nat) (k:Nat):CM×List Nat:=(branchM (T.getD k default) s.1,s.2++[s.1.br.length])
def landsM (below:Nat->CM->CM) (s:CM×List Nat) (kb:Nat×Nat):CM×List Nat :=
 let s2:=below kb.1 (s.1.land kb.2)
 (s2.add 19 0,s.2++[s2.code.length])
def beginM (pri:Bool) (s:CM×List Nat) (j:Nat):CM×List Nat:=(s.1.add (if pri=true∧j=0 then 22 else 21) 0,s.2++[s.1.code.length])
def begunM (proc:Nat->CM->CM) (s:CM) (kb:Nat×Nat):CM:=(proc kb.1 (s.aim kb.2)).add 24 0
def procM:Nat->Nat->CM->CM
 | 0,_,s=>s
 | f+1,i,s =>
  let n:=T.getD i default
  let below:Nat->CM->CM:=fun i s=>(T.getD i default).kids.foldl (fun s k=>procM f k s) s
  if n.kind=7 then below i s
  else if n.kind=15∨n.kind=16 then
   let s:CM:={ s with room:=max s.room (n.nd+1) }
   below i (if n.kind=15 then s.add 11 n.nd else s)
  else if n.kind=10 then
   let s1:=exprM n.expr (s.add 0 0)
   ((below i (s1.add 18 0)).add 19 (s.code.length:Int)).aim s1.code.length
  else if n.kind=11 then
   let p:=n.kids.foldl (whenM T below) (s.add 0 0,[])
   (p.1.add 20 0).aims p.2
  else if n.kind=13 then
   let p:=n.kids.foldl (onM T) (s.add 0 0,[])
   let q:=(n.kids.zip p.2).foldl (landsM below) (p.1.add 16 0,[])
   q.1.aims q.2
  else if n.kind=8∨n.kind=9 then
   let p:=(List.range n.kids.length).foldl (beginM (decide (n.kind=9))) (s.add 0 0,[])
   let j:=p.1.code.length
   ((n.kids.zip p.2).foldl (begunM (procM f)) (p.1.add 23 0)).aim j
  else lineM n s
end Make
def makeF (T:List PNode) (root:Nat):CM:=(procM T T.length root ⟨[],[],3⟩).add 24 0
end Go.Proofs.YtnhidaamfnjdjaaGreatDoor
namespace Go.Proofs.YtnhidaamfnjdjaaGreatDoor
open Go.RowKit Go.Maps
structure PPr where
 above:Option Nat
 urg:Bool
 at_:Int
 opn:List (Int×Int×Int)
 below:Int
 told:Nat
instance : Inhabited PPr := ⟨⟨none, false, 0, [], 0, 0⟩⟩
structure PCh where
 nums:List Int
 rd:Option Nat
 wr:Option Nat
instance : Inhabited PCh := ⟨⟨[], none, none⟩⟩
structure MS where
 vars:List Int
 chans:List PCh
 stack:List Int
 cur:Option Nat
 urg:List Nat
 oth:List Nat
 asleep:List (Int×Int×Nat)
 slept:Int
 time:Int
 out:List Int
 ended:Bool
 faulty:Bool
 procs:List PPr
def w64 (n:Int):Int:=wrap64 n
def slLess (l:List (Int×Int×Nat)) (i j:Nat):Bool :=
 let a:=l.getD i (0,0,0)
 let b:=l.getD j (0,0,0)
 if a.1≠b.1 then decide (a.1<b.1) else decide (a.2.1<b.2.1)
def slSwap (l:List (Int×Int×Nat)) (i j:Nat):List (Int×Int×Nat):=(l.set i (l.getD j (0,0,0))).set j (l.getD i (0,0,0))
def upF:Nat->Nat->List (Int×Int×Nat)->List (Int×Int×Nat)
 | 0,_,l=>l
 | f+1,j,l=>if j=0∨slLess l j ((j - 1) / 2)=false then l else upF f ((j - 1) / 2) (slSwap l ((j - 1) / 2) j)
def downF:Nat->Nat->Nat->List (Int×Int×Nat)->List (Int×Int×Nat)
 | 0,_,_,l=>l
 | f+1,i,n,l =>
  if n≤2 * i+1 then l
  else
   let j:=if 2 * i+2<n∧slLess l (2 * i+2) (2 * i+1)=true then 2 * i+2 else 2 * i+1
   if slLess l j i=false then l else downF f j n (slSwap l i j)
def pushF' (x:Int×Int×Nat) (l:List (Int×Int×Nat)):List (Int×Int×Nat):=upF (l.length+1) l.length (l++[x])
def popF (l:List (Int×Int×Nat)):(Int×Int×Nat)×List (Int×Int×Nat) :=
 let l2:=downF l.length 0 (l.length - 1) (slSwap l 0 (l.length - 1))
 (l2.getD (l.length - 1) (0,0,0),l2.take (l.length - 1))
namespace MS
def pr (s:MS) (p:Nat):PPr:=s.procs.getD p default
def setPr (s:MS) (p:Nat) (x:PPr):MS:={ s with procs:=s.procs.set p x }
def ch (s:MS) (c:Int):PCh:=s.chans.getD c.toNat default
def setCh (s:MS) (c:Int) (x:PCh):MS:={ s with chans:=s.chans.set c.toNat x }
def put (s:MS) (n:Int):MS:={ s with stack:=s.stack++[n] }
def top (s:MS):Int:=s.stack.getLastD 0
def pop (s:MS):MS:={ s with stack:=s.stack.dropLast }
def leave (s:MS):MS:={ s with cur:=none }
def fault (s:MS):MS:={ s with faulty:=true,cur:=none }
def goOn (s:MS) (p:Nat):MS :=
 let s:=s.setPr p { s.pr p with told:=0 }
 if (s.pr p).urg=true then { s with urg:=s.urg++[p] } else { s with oth:=s.oth++[p] }
def follow (s:MS) (p:Nat) (b:Int×Int×Int) (n:Int):MS :=
 ({ s with vars:=s.vars.set b.2.1.toNat n }:MS).setPr p { s.pr p with at_:=b.2.2,opn:=[] }
def unread (s:MS) (b:Int×Int×Int):MS:=s.setCh b.1 { s.ch b.1 with rd:=none }
def hasRead (s:MS) (p:Nat) (c n:Int):MS :=
 let o:=(s.pr p).opn
 let s1:=o.foldl unread s
 let s2:=match o.find? (fun b=>b.1 == c) with
  | some b=>s1.follow p b n
  | none=>s1
 s2.goOn p
def tell (s:MS) (p:Nat) (c n:Int):MS:=if (s.pr p).told=2 then s.hasRead p c n else s.goOn p
def wait (s:MS) (p how:Nat):MS:=(s.setPr p { s.pr p with told:=how }).leave
def send (s:MS) (c n:Int):Bool×MS :=
 match (s.ch c).rd with
 | none=>(false,s.setCh c { s.ch c with nums:=(s.ch c).nums++[n] })
 | some p=>(true,s.tell p c n)
def receive (s:MS) (c:Int):Int×MS :=
 let n:=(s.ch c).nums.headD 0
 let s1:=s.setCh c { s.ch c with nums:=(s.ch c).nums.tail }
 match (s1.ch c).wr with
 | none=>(n,s1)
 | some p=>(n,(s1.setCh c { s1.ch c with wr:=none }).tell p 0 0)
def beginNew (s:MS) (p:Nat) (a:Int) (u:Bool):MS :=
 let s1:=s.setPr p { s.pr p with below:=(s.pr p).below+1 }
 ({ s1 with procs:=s1.procs++[⟨some p,u,a,[],0,0⟩] }:MS).goOn s1.procs.length
def two (s:MS) (f:Int->Int->MS->MS):MS:=f (s.pop.top) s.top s.pop.pop
def jump (s:MS) (p:Nat) (a:Int):MS:=s.setPr p { s.pr p with at_:=a }
def exec (br:List (Int×Int×Int)) (s:MS) (p:Nat) (k a:Int):MS :=
 if k=0 then s
 else if k=1 then s.put a
 else if k=2 then s.put (s.vars.getD a.toNat 0)
 else if k=3 then s.two fun x y s=>s.put (w64 (x+y))
 else if k=4 then s.two fun x y s=>s.put (w64 (x - y))
 else if k=5 then s.two fun x y s=>s.put (w64 (x * y))
 else if k=6 then s.two fun x y s=>if y=0 then s.fault else s.put (w64 (x.tdiv y))
 else if k=7 then s.two fun x y s=>if y=0 then s.fault else s.put (x.tmod y)
 else if k=8 then s.two fun x y s=>s.put (if x=y then 1 else 0)
 else if k=9 then s.two fun x y s=>s.put (if x<y then 1 else 0)
 else if k=10 then s.two fun x y s=>s.put (if x > y then 1 else 0)
 else if k=11 then { s with vars:=s.vars.set a.toNat 0 }
 else if k=12 then { s.pop with vars:=s.vars.set a.toNat s.top }
 else if k=13 then { s.pop with out:=s.out++[s.top] }
 else if k=14 then
  match s.pop.send a s.top with
  | (true,s1)=>s1
  | (false,s1)=>(s1.setCh a { s1.ch a with wr:=some p }).wait p 1
 else if k=15 then s.setPr p { s.pr p with opn:=(s.pr p).opn++[br.getD a.toNat (0,0,0)] }
 else if k=16 then
  match (s.pr p).opn.find? (fun b=>!(s.ch b.1).nums.isEmpty) with
  | some b=>(s.receive b.1).2.follow p b (s.receive b.1).1
  | none=>((s.pr p).opn.foldl (fun s b=>s.setCh b.1 { s.ch b.1 with rd:=some p }) s).wait p 2
 else if k=17 then
  if s.top > 1000000 then s.pop.fault
  else if s.top > 0 then ({ s.pop with asleep:=pushF' (w64 (s.time+s.top),s.slept,p) s.asleep,slept:=s.slept+1 }:MS).wait p 1
  else s.pop
 else if k=18 then (if s.top=0 then s.pop.jump p a else s.pop)
 else if k=19 then s.jump p a
 else if k=20 then s.leave
 else if k=21 then s.beginNew p a (s.pr p).urg
 else if k=22 then s.beginNew p a true
 else if k=23 then (if (s.pr p).below > 0 then (s.jump p a).wait p 1 else s.jump p a)
 else
  match (s.pr p).above with
  | none=>{ s.leave with ended:=true }
  | some q =>
   let s1:=s.leave.setPr q { s.pr q with below:=(s.pr q).below - 1 }
   if (s1.pr q).below=0 then s1.tell q 0 0 else s1
def wakeAll:Nat->MS->MS
 | 0,s=>s
 | f+1,s =>
  match s.asleep with
  | []=>s
  | x :: r=>if x.1=s.time then wakeAll f (({ s with asleep:=(popF (x :: r)).2 }:MS).tell (popF (x :: r)).1.2.2 0 0) else s
def wakeNext (s:MS):MS :=
 match s.asleep with
 | []=>s
 | x :: r=>wakeAll (r.length+1) { s with time:=x.1 }
def makeCurrent (s:MS):MS :=
 if s.faulty=true then s
 else
  let s:=if s.urg=[]∧s.oth=[] then s.wakeNext else s
  match s.urg with
  | p :: r=>{ s with cur:=some p,urg:=r }
  | []=>match s.oth with
   | p :: r=>{ s with cur:=some p,oth:=r }
   | []=>{ s with cur:=none }
def turn (code:List (Int×Int)) (br:List (Int×Int×Int)) (steps:Int) (d:Int) (s:MS):Option (Int×MS) ⊕ (Int×MS) :=
 let s:=if s.cur=none∧d<steps then s.makeCurrent else s
 match s.cur with
 | none=>.inr (d,s)
 | some p =>
  let i:=code.getD (s.pr p).at_.toNat (0,0)
  if i.1=0∧steps≤d then .inr (d,s)
  else .inl (some ((if i.1=0 then d+1 else d),(s.setPr p { s.pr p with at_:=(s.pr p).at_+1 }).exec br p i.1 i.2))
def runF (code:List (Int×Int)) (br:List (Int×Int×Int)) (steps:Int):Nat->Int->MS->Option (Int×MS)
 | 0,_,_=>none
 | f+1,d,s =>
  match turn code br steps d s with
  | .inr r=>some r
  | .inl (some r)=>runF code br steps f r.1 r.2
  | .inl none=>none
def stands (s:MS):Int :=
 if s.faulty=true then 5
 else if s.ended=true then 2
 else if s.cur≠none∨s.urg≠[]∨s.oth≠[]∨s.asleep≠[] then 1
 else if (s.ch 1).rd≠none then 3
 else 4
end MS
def newF (c:CM):MS:=⟨List.replicate c.room.toNat 0,List.replicate c.room.toNat default,[],some 0,[],[],[],0,0,[],false,false,[default]⟩
end Go.Proofs.YtnhidaamfnjdjaaGreatDoor
namespace Go.Proofs.YtnhidaamfnjdjaaGreatDoor
open Go.RowKit Go.Maps
def inB (a:Int) (n:Nat):Bool:=(0≤a)&&Nat.blt a.toNat n
def okWays (s:MS) (o:List (Int×Int×Int)):Bool:=o.all fun b=>inB b.1 s.chans.length&&inB b.2.1 s.vars.length
def okLens (s:MS):Bool:=Nat.blt s.urg.length 900000000000&&Nat.blt s.oth.length 900000000000&&Nat.blt s.stack.length 900000000000&&Nat.blt s.chans.length 900000000000&&Nat.blt s.vars.length 900000000000&&Nat.blt s.out.length 900000000000&&Nat.blt s.asleep.length 900000000000
def okO (o:Option Nat) (n:Nat):Bool:=match o with|none=>true|some i=>Nat.blt i n
def okInR (s:MS):Bool:=s.urg.all (fun i=>Nat.blt i s.procs.length)&&s.oth.all (fun i=>Nat.blt i s.procs.length)&&s.asleep.all (fun x=>Nat.blt x.2.2 s.procs.length)&&s.chans.all (fun x=>okO x.rd s.procs.length&&okO x.wr s.procs.length)&&okO s.cur s.procs.length&&s.procs.all (fun x=>okO x.above s.procs.length)
def okWoken (s:MS) (q:Nat):Bool:=Nat.blt q s.procs.length&&Nat.beq (s.pr q).told 1
def okWr (s:MS) (o:Option Nat):Bool:=match o with|none=>true|some q=>okWoken s q
def okBelow (s:MS) (p:Nat):Bool:=(0≤(s.pr p).below)&&((s.pr p).below<900000000000)
def okX (ns:Bool) (nb:Nat) (s:MS) (p:Nat) (k a:Int):Bool :=
 okLens s&&Nat.blt p s.procs.length&&(
 if k=2 then inB a s.vars.length
 else if k=3∨k=4∨k=5∨k=6∨k=7∨k=8∨k=9∨k=10 then Nat.ble 2 s.stack.length
 else if k=11 then inB a s.vars.length
 else if k=12 then inB a s.vars.length&&Nat.ble 1 s.stack.length
 else if k=13 then Nat.ble 1 s.stack.length
 else if k=14 then inB a s.chans.length&&Nat.ble 1 s.stack.length&&Nat.blt (s.ch a).nums.length 19000000000000&&(match (s.ch a).rd with|none=>true|some q=>Nat.blt q s.procs.length&&Nat.beq (s.pr q).told 2&&okWays s (s.pr q).opn&&Nat.blt (s.pr q).opn.length 900000000000)
 else if k=15 then inB a nb&&Nat.blt (s.pr p).opn.length 900000
 else if k=16 then okWays s (s.pr p).opn&&Nat.blt (s.pr p).opn.length 900000000000&&s.chans.all (fun y=>okWr s y.wr&&Nat.blt y.nums.length 19000000000000)
 else if k=17 then !ns&&Nat.ble 1 s.stack.length&&okInR s&&(0≤s.time)&&(s.time<9000000000000000000)&&(0≤s.slept)&&(s.slept<1000000000000)
 else if k=18 then Nat.ble 1 s.stack.length
 else if k=21∨k=22 then okInR s&&okBelow s p
 else if k=24 then (match (s.pr p).above with|none=>true|some q=>Nat.blt q s.procs.length&&(0<(s.pr q).below)&&((s.pr q).below<900000000000)&&(if (s.pr q).below=1 then Nat.beq (s.pr q).told 1 else true))
 else true)
def okOnce:List (Int×Int×Nat)->Bool
 | []=>true
 | x :: l=>l.all (fun y=>!Nat.beq x.2.2 y.2.2)&&okOnce l
def okMake (ns:Bool) (s:MS):Bool:=okLens s&&okInR s&&(match s.asleep with|[]=>true|_ :: _=>!ns&&s.asleep.all (fun x=>okWoken s x.2.2)&&okOnce s.asleep)&&okLens s.makeCurrent
def turnC (ns:Bool) (code:List (Int×Int)) (br:List (Int×Int×Int)) (steps:Int) (d:Int) (s:MS):Option ((Int×MS) ⊕ (Int×MS)) :=
 if okLens s=false then none
 else match s.cur with
 | none =>
  if d<steps then
   if okMake ns s=true then
    match s.makeCurrent.cur with
    | none=>some (.inr (d,s.makeCurrent))
    | some _=>some (.inl (d,s.makeCurrent))
   else none
  else some (.inr (d,s))
 | some p =>
  let a:=(s.pr p).at_
  if inB a code.length=true∧Nat.blt p s.procs.length=true then
   let i:=code.getD a.toNat (0,0)
   if i.1=0∧steps≤d then some (.inr (d,s))
   else
    let s1:=s.setPr p { s.pr p with at_:=a+1 }
    if (0≤i.1)&&(i.1≤24)&&okX ns br.length s1 p i.1 i.2 then some (.inl ((if i.1=0 then d+1 else d),s1.exec br p i.1 i.2)) else none
  else none
def runC (ns:Bool) (code:List (Int×Int)) (br:List (Int×Int×Int)) (steps:Int):Nat->Int->MS->Option (Int×MS)
 | 0,_,_=>none
 | f+1,d,s =>
  match turnC ns code br steps d s with
  | some (.inl r)=>runC ns code br steps f r.1 r.2
  | some (.inr r)=>some r
  | none=>none
end Go.Proofs.YtnhidaamfnjdjaaGreatDoor
