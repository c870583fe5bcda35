import Derived.Test.YtnhidaamfnjdjaaGreatDoorPure
/- THE CODE OF A TEXT, plain: what package code makes of the table of a text whose names are resolved. Nothing of the dump. -/
namespace Go.Proofs.YtnhidaamfnjdjaaGreatDoor
open Go.RowKit Go.Maps

/-- a maker: instructions (kind, arg), branches (channel, into, at), room -/
structure CM where
  code : List (Int × Int)
  br : List (Int × Int × Int)
  room : Int

def CM.add (s : CM) (k a : Int) : CM := { s with code := s.code ++ [(k, a)] }
def CM.aim (s : CM) (i : Nat) : CM := { s with code := s.code.set i ((s.code.getD i (0, 0)).1, (s.code.length : Int)) }
def CM.aims (s : CM) (l : List Nat) : CM := l.foldl CM.aim s
def CM.land (s : CM) (j : Nat) : CM := { s with br := s.br.set j ((s.br.getD j (0, 0, 0)).1, (s.br.getD j (0, 0, 0)).2.1, (s.code.length : Int)) }
def opK (op : UInt8) : Int :=
  if op = 43 then 3 else if op = 45 then 4 else if op = 42 then 5 else if op = 47 then 6 else if op = 37 then 7 else if op = 61 then 8 else if op = 60 then 9 else 10
def exprM : PE → CM → CM
  | .nil, s => s
  | .num v, s => s.add 1 v
  | .var _ d, s => s.add 2 d
  | .pair op l r, s => (exprM r (exprM l s)).add (opK op) 0
def fullE : PE → Bool
  | .nil => false
  | .num _ => true
  | .var _ _ => true
  | .pair _ l r => fullE l && fullE r
def sizeE : PE → Nat
  | .nil => 0
  | .num _ => 1
  | .var _ _ => 1
  | .pair _ l r => sizeE l + sizeE r + 1
def LineOk (n : PNode) : Prop := ((n.kind = 3 ∨ n.kind = 4 ∨ n.kind = 6) → fullE n.expr = true) ∧ (n.kind = 5 → n.expr = .nil ∨ fullE n.expr = true)
/-- a way to read is opened, unless its expr is 0; its number is how many there were -/
def branchM (n : PNode) (s : CM) : CM :=
  let s1 : CM := { s with br := s.br ++ [(n.cd, n.nd, 0)] }
  match n.expr with
  | .nil => s1.add 15 (s.br.length : Int)
  | e => (((exprM e s1).add 18 0).add 15 (s.br.length : Int)).aim (exprM e s1).code.length
def lineM (n : PNode) (s : CM) : CM :=
  let s := s.add 0 0
  if n.kind = 2 then s.add 20 0
  else if n.kind = 3 then (exprM n.expr s).add 12 n.nd
  else if n.kind = 6 then (exprM n.expr s).add 17 0
  else if n.kind = 4 then (if n.cd = 2 then (exprM n.expr s).add 13 0 else (exprM n.expr s).add 14 n.cd)
  else if n.kind = 5 then ((branchM n s).add 16 0).land s.br.length
  else s

section Make
variable (T : List PNode)

def whenM (below : Nat → CM → CM) (s : CM × List Nat) (k : Nat) : CM × List Nat :=
  let s1 := exprM (T.getD k default).expr s.1
  let s2 := below k (s1.add 18 0)
  ((s2.add 19 0).aim s1.code.length, s.2 ++ [s2.code.length])
def onM (s : CM × List Nat) (k : Nat) : CM × List Nat := (branchM (T.getD k default) s.1, s.2 ++ [s.1.br.length])
def landsM (below : Nat → CM → CM) (s : CM × List Nat) (kb : Nat × Nat) : CM × List Nat :=
  let s2 := below kb.1 (s.1.land kb.2)
  (s2.add 19 0, s.2 ++ [s2.code.length])
def beginM (pri : Bool) (s : CM × List Nat) (j : Nat) : CM × List Nat := (s.1.add (if pri = true ∧ j = 0 then 22 else 21) 0, s.2 ++ [s.1.code.length])
def begunM (proc : Nat → CM → CM) (s : CM) (kb : Nat × Nat) : CM := (proc kb.1 (s.aim kb.2)).add 24 0

def procM : Nat → Nat → CM → CM
  | 0, _, s => s
  | f + 1, i, s =>
    let n := T.getD i default
    let below : Nat → CM → CM := fun i s => (T.getD i default).kids.foldl (fun s k => procM f k s) s
    if n.kind = 7 then below i s
    else if n.kind = 15 ∨ n.kind = 16 then
      let s : CM := { s with room := max s.room (n.nd + 1) }
      below i (if n.kind = 15 then s.add 11 n.nd else s)
    else if n.kind = 10 then
      let s1 := exprM n.expr (s.add 0 0)
      ((below i (s1.add 18 0)).add 19 (s.code.length : Int)).aim s1.code.length
    else if n.kind = 11 then
      let p := n.kids.foldl (whenM T below) (s.add 0 0, [])
      (p.1.add 20 0).aims p.2
    else if n.kind = 13 then
      let p := n.kids.foldl (onM T) (s.add 0 0, [])
      let q := (n.kids.zip p.2).foldl (landsM below) (p.1.add 16 0, [])
      q.1.aims q.2
    else if n.kind = 8 ∨ n.kind = 9 then
      let p := (List.range n.kids.length).foldl (beginM (decide (n.kind = 9))) (s.add 0 0, [])
      let j := p.1.code.length
      ((n.kids.zip p.2).foldl (begunM (procM f)) (p.1.add 23 0)).aim j
    else lineM n s
end Make
/-- the code of a text whose table is T, from its root -/
def makeF (T : List PNode) (root : Nat) : CM := (procM T T.length root ⟨[], [], 3⟩).add 24 0
end Go.Proofs.YtnhidaamfnjdjaaGreatDoor
/- THE MACHINE, plain: what package machine does with code, over tables of processes and channels. Nothing of the dump. -/
namespace Go.Proofs.YtnhidaamfnjdjaaGreatDoor
open Go.RowKit Go.Maps

/-- a process: who began it, whether urgent, the next instruction, the open ways, how many are below it; told: 0 nothing, 1 isWoken, 2 hasRead -/
structure PPr where
  above : Option Nat
  urg : Bool
  at_ : Int
  opn : List (Int × Int × Int)
  below : Int
  told : Nat
instance : Inhabited PPr := ⟨⟨none, false, 0, [], 0, 0⟩⟩
structure PCh where
  nums : List Int
  rd : Option Nat
  wr : Option Nat
instance : Inhabited PCh := ⟨⟨[], none, none⟩⟩
structure MS where
  vars : List Int
  chans : List PCh
  stack : List Int
  cur : Option Nat
  urg : List Nat
  oth : List Nat
  asleep : List (Int × Int × Nat)
  slept : Int
  time : Int
  out : List Int
  ended : Bool
  faulty : Bool
  procs : List PPr

def w64 (n : Int) : Int := wrap64 n

/-! ### The heap of those that sleep, as container/heap keeps it -/
def slLess (l : List (Int × Int × Nat)) (i j : Nat) : Bool :=
  let a := l.getD i (0, 0, 0)
  let b := l.getD j (0, 0, 0)
  if a.1 ≠ b.1 then decide (a.1 < b.1) else decide (a.2.1 < b.2.1)
def slSwap (l : List (Int × Int × Nat)) (i j : Nat) : List (Int × Int × Nat) := (l.set i (l.getD j (0, 0, 0))).set j (l.getD i (0, 0, 0))
def upF : Nat → Nat → List (Int × Int × Nat) → List (Int × Int × Nat)
  | 0, _, l => l
  | f + 1, j, l => if j = 0 ∨ slLess l j ((j - 1) / 2) = false then l else upF f ((j - 1) / 2) (slSwap l ((j - 1) / 2) j)
def downF : Nat → Nat → Nat → List (Int × Int × Nat) → List (Int × Int × Nat)
  | 0, _, _, l => l
  | f + 1, i, n, l =>
    if n ≤ 2 * i + 1 then l
    else
      let j := if 2 * i + 2 < n ∧ slLess l (2 * i + 2) (2 * i + 1) = true then 2 * i + 2 else 2 * i + 1
      if slLess l j i = false then l else downF f j n (slSwap l i j)
def pushF' (x : Int × Int × Nat) (l : List (Int × Int × Nat)) : List (Int × Int × Nat) := upF (l.length + 1) l.length (l ++ [x])
/-- the first one, and the rest -/
def popF (l : List (Int × Int × Nat)) : (Int × Int × Nat) × List (Int × Int × Nat) :=
  let l2 := downF l.length 0 (l.length - 1) (slSwap l 0 (l.length - 1))
  (l2.getD (l.length - 1) (0, 0, 0), l2.take (l.length - 1))

namespace MS
def pr (s : MS) (p : Nat) : PPr := s.procs.getD p default
def setPr (s : MS) (p : Nat) (x : PPr) : MS := { s with procs := s.procs.set p x }
def ch (s : MS) (c : Int) : PCh := s.chans.getD c.toNat default
def setCh (s : MS) (c : Int) (x : PCh) : MS := { s with chans := s.chans.set c.toNat x }
def put (s : MS) (n : Int) : MS := { s with stack := s.stack ++ [n] }
def top (s : MS) : Int := s.stack.getLastD 0
def pop (s : MS) : MS := { s with stack := s.stack.dropLast }
def leave (s : MS) : MS := { s with cur := none }
def fault (s : MS) : MS := { s with faulty := true, cur := none }
def goOn (s : MS) (p : Nat) : MS :=
  let s := s.setPr p { s.pr p with told := 0 }
  if (s.pr p).urg = true then { s with urg := s.urg ++ [p] } else { s with oth := s.oth ++ [p] }
def follow (s : MS) (p : Nat) (b : Int × Int × Int) (n : Int) : MS :=
  ({ s with vars := s.vars.set b.2.1.toNat n } : MS).setPr p { s.pr p with at_ := b.2.2, opn := [] }
def unread (s : MS) (b : Int × Int × Int) : MS := s.setCh b.1 { s.ch b.1 with rd := none }
def hasRead (s : MS) (p : Nat) (c n : Int) : MS :=
  let o := (s.pr p).opn
  let s1 := o.foldl unread s
  let s2 := match o.find? (fun b => b.1 == c) with
    | some b => s1.follow p b n
    | none => s1
  s2.goOn p
def tell (s : MS) (p : Nat) (c n : Int) : MS := if (s.pr p).told = 2 then s.hasRead p c n else s.goOn p
/-- waits until it is told; how: 1 isWoken, 2 hasRead -/
def wait (s : MS) (p how : Nat) : MS := (s.setPr p { s.pr p with told := how }).leave
/-- whether it has been read -/
def send (s : MS) (c n : Int) : Bool × MS :=
  match (s.ch c).rd with
  | none => (false, s.setCh c { s.ch c with nums := (s.ch c).nums ++ [n] })
  | some p => (true, s.tell p c n)
def receive (s : MS) (c : Int) : Int × MS :=
  let n := (s.ch c).nums.headD 0
  let s1 := s.setCh c { s.ch c with nums := (s.ch c).nums.tail }
  match (s1.ch c).wr with
  | none => (n, s1)
  | some p => (n, (s1.setCh c { s1.ch c with wr := none }).tell p 0 0)
def beginNew (s : MS) (p : Nat) (a : Int) (u : Bool) : MS :=
  let s1 := s.setPr p { s.pr p with below := (s.pr p).below + 1 }
  ({ s1 with procs := s1.procs ++ [⟨some p, u, a, [], 0, 0⟩] } : MS).goOn s1.procs.length
def two (s : MS) (f : Int → Int → MS → MS) : MS := f (s.pop.top) s.top s.pop.pop
def jump (s : MS) (p : Nat) (a : Int) : MS := s.setPr p { s.pr p with at_ := a }

/-- what an instruction does for the current process p -/
def exec (br : List (Int × Int × Int)) (s : MS) (p : Nat) (k a : Int) : MS :=
  if k = 0 then s
  else if k = 1 then s.put a
  else if k = 2 then s.put (s.vars.getD a.toNat 0)
  else if k = 3 then s.two fun x y s => s.put (w64 (x + y))
  else if k = 4 then s.two fun x y s => s.put (w64 (x - y))
  else if k = 5 then s.two fun x y s => s.put (w64 (x * y))
  else if k = 6 then s.two fun x y s => if y = 0 then s.fault else s.put (w64 (x.tdiv y))
  else if k = 7 then s.two fun x y s => if y = 0 then s.fault else s.put (x.tmod y)
  else if k = 8 then s.two fun x y s => s.put (if x = y then 1 else 0)
  else if k = 9 then s.two fun x y s => s.put (if x < y then 1 else 0)
  else if k = 10 then s.two fun x y s => s.put (if x > y then 1 else 0)
  else if k = 11 then { s with vars := s.vars.set a.toNat 0 }
  else if k = 12 then { s.pop with vars := s.vars.set a.toNat s.top }
  else if k = 13 then { s.pop with out := s.out ++ [s.top] }
  else if k = 14 then
    match s.pop.send a s.top with
    | (true, s1) => s1
    | (false, s1) => (s1.setCh a { s1.ch a with wr := some p }).wait p 1
  else if k = 15 then s.setPr p { s.pr p with opn := (s.pr p).opn ++ [br.getD a.toNat (0, 0, 0)] }
  else if k = 16 then
    match (s.pr p).opn.find? (fun b => !(s.ch b.1).nums.isEmpty) with
    | some b => (s.receive b.1).2.follow p b (s.receive b.1).1
    | none => ((s.pr p).opn.foldl (fun s b => s.setCh b.1 { s.ch b.1 with rd := some p }) s).wait p 2
  else if k = 17 then
    if s.top > 1000000 then s.pop.fault
    else if s.top > 0 then ({ s.pop with asleep := pushF' (w64 (s.time + s.top), s.slept, p) s.asleep, slept := s.slept + 1 } : MS).wait p 1
    else s.pop
  else if k = 18 then (if s.top = 0 then s.pop.jump p a else s.pop)
  else if k = 19 then s.jump p a
  else if k = 20 then s.leave
  else if k = 21 then s.beginNew p a (s.pr p).urg
  else if k = 22 then s.beginNew p a true
  else if k = 23 then (if (s.pr p).below > 0 then (s.jump p a).wait p 1 else s.jump p a)
  else
    match (s.pr p).above with
    | none => { s.leave with ended := true }
    | some q =>
      let s1 := s.leave.setPr q { s.pr q with below := (s.pr q).below - 1 }
      if (s1.pr q).below = 0 then s1.tell q 0 0 else s1

def wakeAll : Nat → MS → MS
  | 0, s => s
  | f + 1, s =>
    match s.asleep with
    | [] => s
    | x :: r => if x.1 = s.time then wakeAll f (({ s with asleep := (popF (x :: r)).2 } : MS).tell (popF (x :: r)).1.2.2 0 0) else s
def wakeNext (s : MS) : MS :=
  match s.asleep with
  | [] => s
  | x :: r => wakeAll (r.length + 1) { s with time := x.1 }
/-- the first one that can go on is made current -/
def makeCurrent (s : MS) : MS :=
  if s.faulty = true then s
  else
    let s := if s.urg = [] ∧ s.oth = [] then s.wakeNext else s
    match s.urg with
    | p :: r => { s with cur := some p, urg := r }
    | [] => match s.oth with
      | p :: r => { s with cur := some p, oth := r }
      | [] => { s with cur := none }
/-- one turn of Run's loop: none: it is over -/
def turn (code : List (Int × Int)) (br : List (Int × Int × Int)) (steps : Int) (d : Int) (s : MS) : Option (Int × MS) ⊕ (Int × MS) :=
  let s := if s.cur = none ∧ d < steps then s.makeCurrent else s
  match s.cur with
  | none => .inr (d, s)
  | some p =>
    let i := code.getD (s.pr p).at_.toNat (0, 0)
    if i.1 = 0 ∧ steps ≤ d then .inr (d, s)
    else .inl (some ((if i.1 = 0 then d + 1 else d), (s.setPr p { s.pr p with at_ := (s.pr p).at_ + 1 }).exec br p i.1 i.2))
def runF (code : List (Int × Int)) (br : List (Int × Int × Int)) (steps : Int) : Nat → Int → MS → Option (Int × MS)
  | 0, _, _ => none
  | f + 1, d, s =>
    match turn code br steps d s with
    | .inr r => some r
    | .inl (some r) => runF code br steps f r.1 r.2
    | .inl none => none
def stands (s : MS) : Int :=
  if s.faulty = true then 5
  else if s.ended = true then 2
  else if s.cur ≠ none ∨ s.urg ≠ [] ∨ s.oth ≠ [] ∨ s.asleep ≠ [] then 1
  else if (s.ch 1).rd ≠ none then 3
  else 4
end MS
def newF (c : CM) : MS := ⟨List.replicate c.room.toNat 0, List.replicate c.room.toNat default, [], some 0, [], [], [], 0, 0, [], false, false, [default]⟩
end Go.Proofs.YtnhidaamfnjdjaaGreatDoor
/- A CHECKED RUN, plain: each turn is looked at ahead of being done: what is asked for is what the walks of the actions ask. Nothing of the dump. -/
namespace Go.Proofs.YtnhidaamfnjdjaaGreatDoor
open Go.RowKit Go.Maps

def inB (a : Int) (n : Nat) : Bool := (0 ≤ a) && Nat.blt a.toNat n
def okWays (s : MS) (o : List (Int × Int × Int)) : Bool := o.all fun b => inB b.1 s.chans.length && inB b.2.1 s.vars.length
def okLens (s : MS) : Bool := Nat.blt s.urg.length 900000000000 && Nat.blt s.oth.length 900000000000 && Nat.blt s.stack.length 900000000000 && Nat.blt s.chans.length 900000000000 && Nat.blt s.vars.length 900000000000 && Nat.blt s.out.length 900000000000 && Nat.blt s.asleep.length 900000000000
def okO (o : Option Nat) (n : Nat) : Bool := match o with | none => true | some i => Nat.blt i n
def okInR (s : MS) : Bool := s.urg.all (fun i => Nat.blt i s.procs.length) && s.oth.all (fun i => Nat.blt i s.procs.length) && s.asleep.all (fun x => Nat.blt x.2.2 s.procs.length) && s.chans.all (fun x => okO x.rd s.procs.length && okO x.wr s.procs.length) && okO s.cur s.procs.length && s.procs.all (fun x => okO x.above s.procs.length)
/-- who is told is woken -/
def okWoken (s : MS) (q : Nat) : Bool := Nat.blt q s.procs.length && Nat.beq (s.pr q).told 1
def okWr (s : MS) (o : Option Nat) : Bool := match o with | none => true | some q => okWoken s q
def okBelow (s : MS) (p : Nat) : Bool := (0 ≤ (s.pr p).below) && ((s.pr p).below < 900000000000)
/-- may the process p, the current one, do this? ns: nobody may sleep -/
def okX (ns : Bool) (nb : Nat) (s : MS) (p : Nat) (k a : Int) : Bool :=
  okLens s && Nat.blt p s.procs.length && (
  if k = 2 then inB a s.vars.length
  else if k = 3 ∨ k = 4 ∨ k = 5 ∨ k = 6 ∨ k = 7 ∨ k = 8 ∨ k = 9 ∨ k = 10 then Nat.ble 2 s.stack.length
  else if k = 11 then inB a s.vars.length
  else if k = 12 then inB a s.vars.length && Nat.ble 1 s.stack.length
  else if k = 13 then Nat.ble 1 s.stack.length
  else if k = 14 then inB a s.chans.length && Nat.ble 1 s.stack.length && Nat.blt (s.ch a).nums.length 900000000000 && (match (s.ch a).rd with | none => true | some q => Nat.blt q s.procs.length && Nat.beq (s.pr q).told 2 && okWays s (s.pr q).opn && Nat.blt (s.pr q).opn.length 900000000000)
  else if k = 15 then inB a nb && Nat.blt (s.pr p).opn.length 900000
  else if k = 16 then okWays s (s.pr p).opn && Nat.blt (s.pr p).opn.length 900000000000 && s.chans.all (fun y => okWr s y.wr && Nat.blt y.nums.length 900000000000)
  else if k = 17 then !ns && Nat.ble 1 s.stack.length && okInR s && (0 ≤ s.time) && (s.time < 9000000000000000000) && (0 ≤ s.slept) && (s.slept < 1000000000000)
  else if k = 18 then Nat.ble 1 s.stack.length
  else if k = 21 ∨ k = 22 then okInR s && okBelow s p
  else if k = 24 then (match (s.pr p).above with | none => true | some q => Nat.blt q s.procs.length && (0 < (s.pr q).below) && ((s.pr q).below < 900000000000) && (if (s.pr q).below = 1 then Nat.beq (s.pr q).told 1 else true))
  else true)
/-- each that sleeps sleeps once -/
def okOnce : List (Int × Int × Nat) → Bool
  | [] => true
  | x :: l => l.all (fun y => !Nat.beq x.2.2 y.2.2) && okOnce l
/-- may one be made current? -/
def okMake (ns : Bool) (s : MS) : Bool := okLens s && okInR s && (match s.asleep with | [] => true | _ :: _ => !ns && s.asleep.all (fun x => okWoken s x.2.2) && okOnce s.asleep) && okLens s.makeCurrent
/-- one turn of Run's loop: none: it may not be done; left: it goes on; right: it is over -/
def turnC (ns : Bool) (code : List (Int × Int)) (br : List (Int × Int × Int)) (steps : Int) (d : Int) (s : MS) : Option ((Int × MS) ⊕ (Int × MS)) :=
  if okLens s = false then none
  else match s.cur with
  | none =>
    if d < steps then
      if okMake ns s = true then
        match s.makeCurrent.cur with
        | none => some (.inr (d, s.makeCurrent))
        | some _ => some (.inl (d, s.makeCurrent))
      else none
    else some (.inr (d, s))
  | some p =>
    let a := (s.pr p).at_
    if inB a code.length = true ∧ Nat.blt p s.procs.length = true then
      let i := code.getD a.toNat (0, 0)
      if i.1 = 0 ∧ steps ≤ d then some (.inr (d, s))
      else
        let s1 := s.setPr p { s.pr p with at_ := a + 1 }
        if (0 ≤ i.1) && (i.1 ≤ 24) && okX ns br.length s1 p i.1 i.2 then some (.inl ((if i.1 = 0 then d + 1 else d), s1.exec br p i.1 i.2)) else none
    else none
def runC (ns : Bool) (code : List (Int × Int)) (br : List (Int × Int × Int)) (steps : Int) : Nat → Int → MS → Option (Int × MS)
  | 0, _, _ => none
  | f + 1, d, s =>
    match turnC ns code br steps d s with
    | some (.inl r) => runC ns code br steps f r.1 r.2
    | some (.inr r) => some r
    | none => none
end Go.Proofs.YtnhidaamfnjdjaaGreatDoor
