import Derived.Test.YtnhidaamfnjdjaaGreatDoorRefX
import Derived.Test.YtnhidaamfnjdjaaGreatDoorBlkB
/- NAMES, by the reference, beside the program's. Plain: over the program's own table (the reference's tells the same: PRel). -/
namespace Go.Proofs.YtnhidaamfnjdjaaGreatDoor
open Go.RowKit Go.Maps

structure RDc where
  name : Bs
  chan : Bool
  by_ : Nat
def rnear : List RDc → Bs → Option RDc
  | [], _ => none
  | d :: l, t => match rnear l t with
    | some x => some x
    | none => if d.name = t then some d else none
def rmeans (l : List RDc) (t : Bs) (ch : Bool) : Int :=
  if ch = true ∧ t = wIn then -2 else if ch = true ∧ t = wOut then -3 else match rnear l t with
    | none => -1
    | some d => if d.chan = ch then (d.by_ : Int) else -1
def peOk (l : List RDc) : PE → Bool
  | .nil => true
  | .num _ => true
  | .var n _ => decide (rmeans l n false ≠ -1)
  | .pair _ a b => peOk l a && peOk l b
def declB (n : PNode) : Bool := decide (n.kind = 15 ∨ n.kind = 16)
def nodeOk (l : List RDc) (n : PNode) : Bool :=
  peOk l n.expr && (decide (n.chan = []) || decide (rmeans l n.chan true ≠ -1)) && (decide (n.name = []) || declB n || decide (rmeans l n.name false ≠ -1))
def rdecls (l : List RDc) (n : PNode) (i : Nat) : List RDc := if declB n then l ++ [⟨n.name, decide (n.kind = 16), i - 1⟩] else l
def rnamesF (ns : List PNode) : Nat → List RDc → Nat → Int
  | 0, _, _ => 0
  | f + 1, l, i =>
    if nodeOk l (ns.getD i default) then (ns.getD i default).kids.foldl (fun a k => if a ≠ 0 then a else rnamesF ns f (rdecls l (ns.getD i default) i) k) 0
    else (ns.getD i default).line

/- the last one of a name -/
def nearO : List DC → Bs → Option DC
  | [], _ => none
  | d :: l, t => match nearO l t with
    | some x => some x
    | none => if d.text = t then some d else none
theorem nearO_cons (d : DC) (l : List DC) (t : Bs) : nearO (d :: l) t = match nearO l t with | some x => some x | none => if d.text = t then some d else none := rfl
theorem nearO_any : ∀ (l : List DC) (t : Bs), (l.any fun x => x.text == t) = (nearO l t).isSome
  | [], _ => rfl
  | d :: l, t => by
    rw [List.any_cons, nearO_any l t, nearO_cons]
    cases hn : nearO l t with
    | some x => simp
    | none =>
      by_cases e : d.text = t
      · simp [e]
      · simp [e]
theorem nearest_O : ∀ (l : List DC) (t : Bs), nearestF l t = (nearO l t).getD ⟨[], 0, 0⟩
  | [], _ => rfl
  | d :: l, t => by
    unfold nearestF
    rw [nearO_any l t, nearest_O l t, nearO_cons]
    cases hn : nearO l t with
    | some x => simp
    | none =>
      by_cases e : d.text = t
      · simp [e]
      · simp [e]

/-- one that is declared, for both -/
structure DRel (d : DC) (r : RDc) : Prop where
  name : d.text = r.name
  kind : d.kind = if r.chan then 16 else 15
  free : r.name ≠ wIn ∧ r.name ≠ wOut
inductive All2 {α β : Type} (R : α → β → Prop) : List α → List β → Prop where
  | nil : All2 R [] []
  | cons {a : α} {b : β} {l : List α} {m : List β} (h : R a b) (t : All2 R l m) : All2 R (a :: l) (b :: m)
theorem All2.snoc {α β : Type} {R : α → β → Prop} {l : List α} {m : List β} (h : All2 R l m) {a : α} {b : β} (hab : R a b) : All2 R (l ++ [a]) (m ++ [b]) := by
  induction h with
  | nil => exact .cons hab .nil
  | cons h _ ih => exact .cons h ih
def HRel (h : List DC) (l : List RDc) : Prop := ∃ t, h = startR.hold ++ t ∧ All2 DRel t l

theorem near_rel {t : List DC} {l : List RDc} (h : All2 DRel t l) (x : Bs) : (nearO t x = none ∧ rnear l x = none) ∨ ∃ d r, nearO t x = some d ∧ rnear l x = some r ∧ DRel d r ∧ r.name = x := by
  induction h with
  | nil => exact .inl ⟨rfl, rfl⟩
  | @cons a b t l hd _ ih =>
    rcases ih with ⟨h1, h2⟩ | ⟨d, r, h1, h2, h3, h4⟩
    · have e1 : nearO (a :: t) x = if a.text = x then some a else none := by
        show (match nearO t x with | some y => some y | none => _) = _
        rw [h1]
      have e2 : rnear (b :: l) x = if b.name = x then some b else none := by
        show (match rnear l x with | some y => some y | none => _) = _
        rw [h2]
      rw [e1, e2, hd.name]
      by_cases e : b.name = x
      · rw [if_pos e, if_pos e]; exact .inr ⟨a, b, rfl, rfl, hd, e⟩
      · rw [if_neg e, if_neg e]; exact .inl ⟨rfl, rfl⟩
    · refine .inr ⟨d, r, ?_, ?_, h3, h4⟩
      · show (match nearO t x with | some y => some y | none => _) = _
        rw [h1]
      · show (match rnear l x with | some y => some y | none => _) = _
        rw [h2]
theorem near_start (t : List DC) (x : Bs) : nearO (startR.hold ++ t) x = match nearO t x with | some d => some d | none => if x = wOut then some ⟨wOut, 16, 2⟩ else if x = wIn then some ⟨wIn, 16, 1⟩ else none := by
  show (match (match nearO t x with | some y => some y | none => if wOut = x then some (⟨wOut, 16, 2⟩ : DC) else none) with | some y => some y | none => if wIn = x then some (⟨wIn, 16, 1⟩ : DC) else none) = _
  cases nearO t x with
  | some d => rfl
  | none =>
    by_cases e : x = wOut
    · subst e; simp
    · have e' : ¬ wOut = x := fun y => e y.symm
      rw [if_neg e', if_neg e]
      by_cases e2 : x = wIn
      · subst e2; simp
      · have e2' : ¬ wIn = x := fun y => e2 y.symm
        simp [e2, e2']

theorem rmeans_var (l : List RDc) (x : Bs) : rmeans l x false = match rnear l x with | none => -1 | some d => if d.chan = false then (d.by_ : Int) else -1 := by
  unfold rmeans
  have h1 : ¬ (false = true ∧ x = wIn) := fun y => by cases y.1
  have h2 : ¬ (false = true ∧ x = wOut) := fun y => by cases y.1
  rw [if_neg h1, if_neg h2]
theorem in_out : wIn ≠ wOut := by decide
/-- what a name means, for both -/
theorem means_var {h : List DC} {l : List RDc} (hr : HRel h l) (x : Bs) : (nearestF h x).kind = 15 ↔ rmeans l x false ≠ -1 := by
  obtain ⟨t, rfl, ha⟩ := hr
  rw [nearest_O, near_start, rmeans_var]
  rcases near_rel ha x with ⟨h1, h2⟩ | ⟨d, r, h1, h2, h3, _⟩
  · rw [h1, h2]
    dsimp only
    by_cases e : x = wOut
    · rw [if_pos e]; simp
    · rw [if_neg e]
      by_cases e2 : x = wIn
      · rw [if_pos e2]; simp
      · rw [if_neg e2]; simp
  · rw [h1, h2]
    dsimp only
    show d.kind = 15 ↔ _
    rw [h3.kind]
    cases r.chan with
    | true => simp
    | false =>
      rw [if_neg (by simp), if_pos rfl]
      constructor
      · intro _; omega
      · intro _; rfl
theorem means_chan {h : List DC} {l : List RDc} (hr : HRel h l) (x : Bs) : (nearestF h x).kind = 16 ↔ rmeans l x true ≠ -1 := by
  obtain ⟨t, rfl, ha⟩ := hr
  rw [nearest_O, near_start]
  rcases near_rel ha x with ⟨h1, h2⟩ | ⟨d, r, h1, h2, h3, h4⟩
  · rw [h1]
    dsimp only
    by_cases e2 : x = wIn
    · have e3 : rmeans l x true = -2 := by unfold rmeans; rw [if_pos ⟨rfl, e2⟩]
      have e4 : ¬ x = wOut := fun y => in_out (e2.symm.trans y)
      rw [e3, if_neg e4, if_pos e2]; simp
    · by_cases e : x = wOut
      · have h5 : ¬ (true = true ∧ x = wIn) := fun y => e2 y.2
        have e3 : rmeans l x true = -3 := by unfold rmeans; rw [if_neg h5, if_pos ⟨rfl, e⟩]
        rw [e3, if_pos e]; simp
      · have h5 : ¬ (true = true ∧ x = wIn) := fun y => e2 y.2
        have h6 : ¬ (true = true ∧ x = wOut) := fun y => e y.2
        have e3 : rmeans l x true = -1 := by unfold rmeans; rw [if_neg h5, if_neg h6, h2]
        rw [e3, if_neg e, if_neg e2]; simp
  · have h5 : ¬ (true = true ∧ x = wIn) := fun y => h3.free.1 (h4.trans y.2)
    have h6 : ¬ (true = true ∧ x = wOut) := fun y => h3.free.2 (h4.trans y.2)
    have e3 : rmeans l x true = if r.chan = true then (r.by_ : Int) else -1 := by unfold rmeans; rw [if_neg h5, if_neg h6, h2]
    rw [h1, e3]
    dsimp only
    show d.kind = 16 ↔ _
    rw [h3.kind]
    cases r.chan with
    | true =>
      rw [if_pos rfl, if_pos rfl]
      constructor
      · intro _; omega
      · intro _; rfl
    | false => simp
end Go.Proofs.YtnhidaamfnjdjaaGreatDoor
namespace Go.Proofs.YtnhidaamfnjdjaaGreatDoor
open Go.RowKit Go.Maps

def PE.ed : PE → PE
  | .nil => .nil
  | .num v => .num v
  | .var n _ => .var n 0
  | .pair op a b => .pair op a.ed b.ed
def PNode.ed (n : PNode) : PNode := { n with nd := 0, cd := 0, expr := n.expr.ed }
theorem peOk_ed (l : List RDc) : ∀ e : PE, peOk l e.ed = peOk l e
  | .nil => rfl
  | .num _ => rfl
  | .var _ _ => rfl
  | .pair _ a b => by show (peOk l a.ed && peOk l b.ed) = (peOk l a && peOk l b); rw [peOk_ed l a, peOk_ed l b]
theorem nodeOk_ed (l : List RDc) (n : PNode) : nodeOk l n.ed = nodeOk l n := by
  show (peOk l n.expr.ed && _ && _) = (peOk l n.expr && _ && _)
  rw [peOk_ed]; rfl

/-- the line of an error: the first one stays -/
def lineOr (a b : Int) : Int := if a ≠ 0 then a else b
theorem lineOr_zero (b : Int) : lineOr 0 b = b := rfl
theorem lineOr_assoc (a b c : Int) : lineOr (lineOr a b) c = lineOr a (lineOr b c) := by
  unfold lineOr
  by_cases h : a ≠ 0
  · rw [if_pos h, if_pos h, if_pos h]
  · rw [if_neg h, if_neg h]
def badLine (ok : Bool) (line : Int) : Int := if ok then 0 else line
theorem badLine_and (a b : Bool) (line : Int) (h : line ≠ 0) : lineOr (badLine a line) (badLine b line) = badLine (a && b) line := by
  cases a <;> cases b <;> simp [badLine, lineOr, h]
theorem badLine_true (line : Int) : badLine true line = 0 := rfl
theorem lineOr_right (a : Int) : lineOr a 0 = a := by
  unfold lineOr
  by_cases h : a ≠ 0
  · rw [if_pos h]
  · rw [if_neg h]; have : a = 0 := by simpa using h
    exact this.symm

theorem resolve_var {r : RV} {l : List RDc} (h : HRel r.hold l) (t : Bs) (old line : Int) : (resolveF r t old 15 line).1.line = lineOr r.line (badLine (decide (rmeans l t false ≠ -1)) line) ∧ (resolveF r t old 15 line).1.hold = r.hold := by
  have hm := means_var h t
  unfold resolveF
  by_cases hk : (nearestF r.hold t).kind = 15
  · rw [if_pos hk, decide_eq_true (hm.1 hk), badLine_true, lineOr_right]
    exact ⟨rfl, rfl⟩
  · rw [if_neg hk, decide_eq_false (fun x => hk (hm.2 x))]
    refine ⟨?_, rfl⟩
    show (if r.line = 0 then line else r.line) = _
    unfold lineOr badLine
    by_cases h0 : r.line = 0 <;> simp [h0]
theorem resolve_chan {r : RV} {l : List RDc} (h : HRel r.hold l) (t : Bs) (old line : Int) : (resolveF r t old 16 line).1.line = lineOr r.line (badLine (decide (rmeans l t true ≠ -1)) line) ∧ (resolveF r t old 16 line).1.hold = r.hold := by
  have hm := means_chan h t
  unfold resolveF
  by_cases hk : (nearestF r.hold t).kind = 16
  · rw [if_pos hk, decide_eq_true (hm.1 hk), badLine_true, lineOr_right]
    exact ⟨rfl, rfl⟩
  · rw [if_neg hk, decide_eq_false (fun x => hk (hm.2 x))]
    refine ⟨?_, rfl⟩
    show (if r.line = 0 then line else r.line) = _
    unfold lineOr badLine
    by_cases h0 : r.line = 0 <;> simp [h0]
theorem each_rel {l : List RDc} (line : Int) (hl : line ≠ 0) : ∀ (e : PE) (r : RV), HRel r.hold l → (eachF line r e).1.line = lineOr r.line (badLine (peOk l e) line) ∧ (eachF line r e).1.hold = r.hold ∧ (eachF line r e).2.ed = e.ed
  | .nil, r, _ => ⟨(lineOr_right _).symm, rfl, rfl⟩
  | .num _, r, _ => ⟨(lineOr_right _).symm, rfl, rfl⟩
  | .var n d, r, h => ⟨(resolve_var h n d line).1, (resolve_var h n d line).2, rfl⟩
  | .pair op a b, r, h => by
    obtain ⟨a1, a2, a3⟩ := each_rel line hl a r h
    obtain ⟨b1, b2, b3⟩ := each_rel (l := l) line hl b (eachF line r a).1 (by rw [a2]; exact h)
    refine ⟨?_, b2.trans a2, ?_⟩
    · show (eachF line (eachF line r a).1 b).1.line = lineOr r.line (badLine (peOk l a && peOk l b) line)
      rw [b1, a1, lineOr_assoc, badLine_and _ _ _ hl]
    · show PE.pair op (eachF line r a).2.ed (eachF line (eachF line r a).1 b).2.ed = PE.pair op a.ed b.ed
      rw [a3, b3]

/-- what a line itself has of names, by its kind -/
def headOkB (l : List RDc) (n : PNode) : Bool :=
  if n.kind = 3 then decide (rmeans l n.name false ≠ -1)
  else if n.kind = 4 then decide (rmeans l n.chan true ≠ -1)
  else if n.kind = 5 ∨ n.kind = 14 then decide (rmeans l n.chan true ≠ -1) && decide (rmeans l n.name false ≠ -1)
  else true
theorem head_rel {l : List RDc} (n : PNode) (hl : n.line ≠ 0) (r : RV) (h : HRel r.hold l) : (headOf r n).1.line = lineOr r.line (badLine (headOkB l n) n.line) ∧ (headOf r n).1.hold = r.hold ∧ (headOf r n).2.ed = n.ed := by
  unfold headOf headOkB
  split
  · exact ⟨(resolve_var h n.name n.nd n.line).1, (resolve_var h n.name n.nd n.line).2, rfl⟩
  · split
    · exact ⟨(resolve_chan h n.chan n.cd n.line).1, (resolve_chan h n.chan n.cd n.line).2, rfl⟩
    · split
      · have h1 := resolve_chan h n.chan n.cd n.line
        have h2 := resolve_var (r := (chanOf r n).1) (l := l) (by show HRel (resolveF r n.chan n.cd 16 n.line).1.hold l; rw [h1.2]; exact h) n.name n.nd n.line
        refine ⟨?_, h2.2.trans h1.2, rfl⟩
        show (resolveF (chanOf r n).1 n.name n.nd 15 n.line).1.line = _
        rw [h2.1]
        show lineOr (resolveF r n.chan n.cd 16 n.line).1.line _ = _
        rw [h1.1, lineOr_assoc, badLine_and _ _ _ hl]
      · exact ⟨(lineOr_right _).symm, rfl, rfl⟩
theorem node_head {l : List RDc} {n : PNode} (hw : WfL n.kind n.name n.chan) (hd : declB n = false) : (headOkB l n && peOk l n.expr) = nodeOk l n := by
  have hd' : ¬ (n.kind = 15 ∨ n.kind = 16) := by unfold declB at hd; simpa using hd
  unfold WfL at hw
  unfold headOkB nodeOk
  rw [hd]
  by_cases h3 : n.kind = 3
  · rw [if_pos h3] at hw ⊢
    rw [hw.2, decide_eq_false hw.1]
    simp [Bool.and_comm]
  · rw [if_neg h3] at hw ⊢
    by_cases h4 : n.kind = 4
    · rw [if_pos h4] at hw ⊢
      rw [hw.1, decide_eq_false hw.2]
      simp [Bool.and_comm]
    · rw [if_neg h4] at hw ⊢
      by_cases h5 : n.kind = 5 ∨ n.kind = 14
      · rw [if_pos h5] at hw ⊢
        rw [decide_eq_false hw.1, decide_eq_false hw.2]
        simp [Bool.and_comm, Bool.and_left_comm]
      · rw [if_neg h5] at hw ⊢
        rw [if_neg hd'] at hw
        rw [hw.1, hw.2]
        simp
end Go.Proofs.YtnhidaamfnjdjaaGreatDoor
namespace Go.Proofs.YtnhidaamfnjdjaaGreatDoor
open Go.RowKit Go.Maps

/-- what a table of the program keeps to, for names -/
structure NamesOk (ns : List PNode) : Prop where
  lines : LOk ns
  up : Up ns
  wf : ∀ i, 0 < i → i < ns.length → WfL (ns.getD i default).kind (ns.getD i default).name (ns.getD i default).chan
  dec : ∀ i, 0 < i → i < ns.length → declB (ns.getD i default) = true → (ns.getD i default).expr = .nil ∧ (ns.getD i default).name ≠ wIn ∧ (ns.getD i default).name ≠ wOut

theorem foldl_lineOr (R : Nat → Int) : ∀ (ks : List Nat) (a : Int), ks.foldl (fun a k => if a ≠ 0 then a else R k) a = lineOr a (ks.foldl (fun a k => if a ≠ 0 then a else R k) 0)
  | [], a => (lineOr_right a).symm
  | k :: ks, a => by
    rw [List.foldl_cons, List.foldl_cons, foldl_lineOr R ks, foldl_lineOr R ks (if (0 : Int) ≠ 0 then 0 else R k)]
    show lineOr (lineOr a (R k)) _ = lineOr a (lineOr (lineOr 0 (R k)) _)
    rw [lineOr_assoc, lineOr_zero]

theorem map_ed_at {a b : List PNode} (h : a.map PNode.ed = b.map PNode.ed) (i : Nat) (hi : i < b.length) : (a.getD i default).ed = (b.getD i default).ed ∧ i < a.length := by
  have hl : a.length = b.length := by have := congrArg List.length h; simpa using this
  have hi' : i < a.length := by omega
  refine ⟨?_, hi'⟩
  have := congrArg (fun l => l[i]?) h
  simp only [List.getElem?_map, List.getElem?_eq_getElem hi', List.getElem?_eq_getElem hi, Option.map_some, Option.some.injEq] at this
  rw [getD_lt _ _ _ hi', getD_lt _ _ _ hi]
  exact this
theorem map_ed_set {a : List PNode} (i : Nat) (n : PNode) (hi : i < a.length) (h : n.ed = (a.getD i default).ed) : (a.set i n).map PNode.ed = a.map PNode.ed := by
  rw [List.map_set, h]
  have e : (a.getD i default).ed = (a.map PNode.ed)[i]'(by simpa using hi) := by rw [getD_lt _ _ _ hi]; simp
  rw [e, List.set_getElem_self]

/-- names, by both: the same line -/
theorem names_rel {ns : List PNode} (ok : NamesOk ns) : ∀ (f : Nat) (st : RV × List PNode) (i : Nat) (l : List RDc), HRel st.1.hold l → st.2.map PNode.ed = ns.map PNode.ed → 0 < i → i < ns.length →
    (nameF f st i).1.line = lineOr st.1.line (rnamesF ns f l i) ∧ (nameF f st i).2.map PNode.ed = ns.map PNode.ed
  | 0, st, i, l, _, h2, _, _ => ⟨(lineOr_right _).symm, h2⟩
  | f + 1, st, i, l, h1, h2, h0, hi => by
    obtain ⟨hed, hi'⟩ := map_ed_at h2 i hi
    have key : ∀ (ks : List Nat) (x : RV × List PNode) (m : List RDc), HRel x.1.hold m → x.2.map PNode.ed = ns.map PNode.ed → (∀ k ∈ ks, 0 < k ∧ k < ns.length) →
        (ks.foldl (nameF f) x).1.line = lineOr x.1.line (ks.foldl (fun a k => if a ≠ 0 then a else rnamesF ns f m k) 0) ∧ (ks.foldl (nameF f) x).2.map PNode.ed = ns.map PNode.ed := by
      intro ks
      induction ks with
      | nil => intro x m _ hx _; exact ⟨(lineOr_right _).symm, hx⟩
      | cons k ks ih =>
        intro x m hx1 hx2 hks
        have g := names_rel ok f x k m hx1 hx2 (hks k (by simp)).1 (hks k (by simp)).2
        have hh := (nameF_keep f x k).2
        have g2 := ih (nameF f x k) m (by rw [hh]; exact hx1) g.2 (fun j hj => hks j (by simp [hj]))
        refine ⟨?_, g2.2⟩
        rw [List.foldl_cons, g2.1, g.1, lineOr_assoc]
        congr 1
        rw [List.foldl_cons, foldl_lineOr _ ks (if (0 : Int) ≠ 0 then 0 else rnamesF ns f m k)]
        rfl
    have hkin : ∀ k ∈ (ns.getD i default).kids, 0 < k ∧ k < ns.length := fun k hk => by have := ok.up i k hk; omega
    have hwf := ok.wf i h0 hi
    have hdec := ok.dec i h0 hi
    have hline := ok.lines i h0 hi
    generalize hN : st.2.getD i default = n at *
    generalize hM : ns.getD i default = q at *
    have ek : n.kind = q.kind := by show n.ed.kind = q.ed.kind; rw [hed]
    have ekids : n.kids = q.kids := by show n.ed.kids = q.ed.kids; rw [hed]
    have eline : n.line = q.line := by show n.ed.line = q.ed.line; rw [hed]
    have ename : n.name = q.name := by show n.ed.name = q.ed.name; rw [hed]
    have echan : n.chan = q.chan := by show n.ed.chan = q.ed.chan; rw [hed]
    have eok : ∀ m, nodeOk m n = nodeOk m q := fun m => by rw [← nodeOk_ed m n, hed, nodeOk_ed]
    unfold nameF rnamesF
    simp only [hN, hM]
    by_cases hd : n.kind = 15 ∨ n.kind = 16
    · rw [if_pos hd]
      have hdq : declB q = true := by unfold declB; rw [← ek]; exact decide_eq_true hd
      obtain ⟨d1, d2, d3⟩ := hdec hdq
      have hno : nodeOk l q = true := by
        unfold nodeOk
        rw [d1, hdq]
        have hc : q.chan = [] := by
          unfold WfL at hwf
          rw [ek] at hd
          rw [if_neg (by omega), if_neg (by omega), if_neg (by omega), if_pos hd] at hwf
          exact hwf.2
        rw [hc]
        simp [peOk]
      rw [if_pos hno, ← ekids]
      have hH : HRel (pushF st.1 n).hold (rdecls l q i) := by
        obtain ⟨t, ht, ha⟩ := h1
        unfold rdecls
        rw [if_pos hdq]
        refine ⟨t ++ [⟨n.name, n.kind, st.1.next⟩], ?_, ha.snoc ⟨ename, ?_, d2, d3⟩⟩
        · show st.1.hold ++ [_] = _
          rw [ht]; simp
        · show n.kind = if decide (q.kind = 16) = true then 16 else 15
          rw [← ek]
          rcases hd with hd | hd <;> rw [hd] <;> rfl
      have g := key n.kids (pushF st.1 n, st.2.set i { n with nd := st.1.next }) (rdecls l q i) hH ((map_ed_set i _ hi' (by rw [hN]; rfl)).trans h2) (by rw [ekids]; exact hkin)
      exact ⟨g.1, g.2⟩
    · rw [if_neg hd, ← ekids]
      have hdq : declB q = false := by unfold declB; rw [← ek]; exact decide_eq_false hd
      have hrd : rdecls l q i = l := by unfold rdecls; rw [hdq]; rfl
      have hwn : WfL n.kind n.name n.chan := by rw [ek, ename, echan]; exact hwf
      have hln : n.line ≠ 0 := by rw [eline]; exact hline
      obtain ⟨a1, a2, a3⟩ := head_rel (l := l) n hln st.1 h1
      have hsame := headOf_same st.1 n
      obtain ⟨b1, b2, b3⟩ := each_rel (l := l) (headOf st.1 n).2.line (by rw [hsame.2.2.2.1]; exact hln) (headOf st.1 n).2.expr (headOf st.1 n).1 (by rw [a2]; exact h1)
      have hx1 : (exprOf (headOf st.1 n).1 (headOf st.1 n).2).1.line = lineOr st.1.line (badLine (nodeOk l q) q.line) := by
        show (eachF _ _ _).1.line = _
        rw [b1, a1, hsame.2.2.2.1, hsame.2.2.1, lineOr_assoc, badLine_and _ _ _ hln, node_head hwn (by unfold declB; exact decide_eq_false hd), eok, eline]
      have hx2 : (exprOf (headOf st.1 n).1 (headOf st.1 n).2).1.hold = st.1.hold := b2.trans a2
      have hx3 : (exprOf (headOf st.1 n).1 (headOf st.1 n).2).2.ed = n.ed := by
        show ({ (headOf st.1 n).2 with expr := (eachF (headOf st.1 n).2.line (headOf st.1 n).1 (headOf st.1 n).2.expr).2 } : PNode).ed = n.ed
        rw [← a3]
        unfold PNode.ed
        simp only [b3]
      have g := key n.kids ((exprOf (headOf st.1 n).1 (headOf st.1 n).2).1, st.2.set i (exprOf (headOf st.1 n).1 (headOf st.1 n).2).2) l (by show HRel (exprOf _ _).1.hold l; rw [hx2]; exact h1) ((map_ed_set i _ hi' (by rw [hN]; exact hx3)).trans h2) (by rw [ekids]; exact hkin)
      refine ⟨?_, g.2⟩
      rw [g.1]
      show lineOr (exprOf _ _).1.line _ = _
      rw [hx1, lineOr_assoc, hrd]
      congr 1
      cases nodeOk l q with
      | true => rfl
      | false =>
        show lineOr q.line _ = if false = true then _ else q.line
        unfold lineOr
        rw [if_pos hline, if_neg (by simp)]
end Go.Proofs.YtnhidaamfnjdjaaGreatDoor
namespace Go.Proofs.YtnhidaamfnjdjaaGreatDoor
open Go.RowKit Go.Maps

def DecL (k : Int) (name : Bs) (e : PE) : Prop := k = 15 ∨ k = 16 → e = .nil ∧ name ≠ wIn ∧ name ≠ wOut
def DecP (q : LP × RS) : Prop := q.2.errno = 0 → DecL q.1.kind q.1.name q.1.expr
theorem ite_dec {c : Prop} [Decidable c] {a b : LP × RS} (ha : DecP a) (hb : DecP b) : DecP (if c then a else b) := by
  split
  · exact ha
  · exact hb
theorem dec_other {q : LP × RS} (h : ¬ (q.1.kind = 15 ∨ q.1.kind = 16)) : DecP q := fun _ x => absurd x h
theorem dec_decl (k : Int) (σ : RS) : DecP (declF k σ) := by
  intro he _
  show (PE.nil = .nil) ∧ σ.next.name.1 ≠ wIn ∧ σ.next.name.1 ≠ wOut
  have he : σ.next.name.2.errno = 0 := he
  unfold RS.name at he ⊢
  cases ha : σ.next.atName with
  | true =>
    rw [ha] at he
    unfold RS.atName at ha
    simp at ha
    refine ⟨rfl, ?_, ?_⟩
    · intro e
      have e : σ.next.text = wIn := e
      rw [e] at ha
      exact absurd ha.2 (by decide)
    · intro e
      have e : σ.next.text = wOut := e
      rw [e] at ha
      exact absurd ha.2 (by decide)
  | false =>
    rw [ha] at he
    have he : (σ.next.fail 2).errno = 0 := he
    unfold RS.fail at he
    simp at he
    split at he
    · exact absurd he (by decide)
    · exact absurd he (by assumption)
theorem onName_dec (nm : Bs) (σ : RS) : DecP (onNameF nm σ) := by
  unfold onNameF
  exact ite_dec (dec_other (by show ¬ ((3 : Int) = 15 ∨ (3 : Int) = 16); decide)) (ite_dec (dec_other (by show ¬ ((4 : Int) = 15 ∨ (4 : Int) = 16); decide)) (dec_other (by show ¬ ((5 : Int) = 15 ∨ (5 : Int) = 16); decide)))
theorem process_dec (σ : RS) : DecP (processF σ) := by
  have b : ∀ k : Int, ¬ (k = 15 ∨ k = 16) → DecP (bareF k σ) := fun k h => dec_other h
  have a : ∀ k : Int, ¬ (k = 15 ∨ k = 16) → DecP (askF k σ) := fun k h => dec_other h
  unfold processF
  exact ite_dec (b 1 (by decide)) (ite_dec (b 2 (by decide)) (ite_dec (b 7 (by decide)) (ite_dec (b 8 (by decide)) (ite_dec (b 9 (by decide)) (ite_dec (b 11 (by decide)) (ite_dec (b 13 (by decide)) (ite_dec (a 6 (by decide)) (ite_dec (a 10 (by decide)) (ite_dec (dec_decl 15 σ) (ite_dec (dec_decl 16 σ)
    (ite_dec (dec_other (by show ¬ ((5 : Int) = 15 ∨ (5 : Int) = 16); decide)) (ite_dec (dec_other (by show ¬ ((4 : Int) = 15 ∨ (4 : Int) = 16); decide)) (onName_dec _ _)))))))))))))
theorem line_dec (above : Int) (σ : RS) : DecP (lineF above σ) := by
  unfold lineF
  split
  · exact dec_other (by show ¬ ((12 : Int) = 15 ∨ (12 : Int) = 16); decide)
  · split
    · have : (branchF (σ.need wOn)).1.kind = 14 := by
        unfold branchF
        split
        · rfl
        · split
          · rfl
          · split <;> rfl
      exact dec_other (by rw [this]; decide)
    · exact process_dec σ
theorem readLine_dec (body : Bs) (above : Int) (h : (readLineF body above).2 = 0) : DecL (readLineF body above).1.kind (readLineF body above).1.name (readLineF body above).1.expr := by
  refine line_dec above (startF body) ?_
  have h : endF (lineF above (startF body)).2 = 0 := h
  unfold endF at h
  split at h
  · exact h
  · unfold RS.fail at h
    simp at h
    split at h
    · exact absurd h (by decide)
    · exact h

theorem add_keeps (P : PNode → Prop) (hkid : ∀ k n, P n → P (addKid k n)) (hdef : P default) (hnew : ∀ (body : Bs) (above no : Int), (readLineF body above).2 = 0 → no ≠ 0 → P (newNode (readLineF body above).1 no)) {s : PS} (h : ∀ n ∈ s.nodes.drop 1, P n) (hne : s.nodes ≠ []) (l : Bs) (no : Int) (hno : no ≠ 0) : ∀ n ∈ (s.add l no).1.nodes.drop 1, P n := by
  unfold PS.add
  split
  · exact h
  · split
    · exact h
    · split
      · exact h
      · dsimp only
        split
        · exact h
        · rename_i he
          intro n hn
          simp only [PS.put] at hn
          rw [List.drop_append_of_le_length (by rw [List.length_set]; exact List.length_pos_iff.2 hne), List.mem_append, List.mem_singleton] at hn
          rcases hn with hn | rfl
          · rw [List.drop_set] at hn
            split at hn
            · exact h n hn
            · rename_i hlt
              rcases List.mem_or_eq_of_mem_set hn with hn | rfl
              · exact h n hn
              · refine hkid _ _ ?_
                unfold PS.at
                generalize s.above _ = j at hlt ⊢
                rcases Nat.lt_or_ge j s.nodes.length with x | x
                · rw [getD_lt _ _ _ x]
                  refine h _ ?_
                  rw [List.mem_drop_iff_getElem]
                  exact ⟨j - 1, by omega, by congr 1; omega⟩
                · rw [getD_ge _ _ _ x]; exact hdef
          · exact hnew _ _ _ (by simpa using he) hno
theorem upTo_keeps (P : PNode → Prop) (hkid : ∀ k n, P n → P (addKid k n)) (hdef : P default) (hnew : ∀ (body : Bs) (above no : Int), (readLineF body above).2 = 0 → no ≠ 0 → P (newNode (readLineF body above).1 no)) (ls : List Bs) : ∀ k, ∀ n ∈ (upTo ls k).nodes.drop 1, P n
  | 0 => by simp [upTo, startP]
  | k + 1 => add_keeps P hkid hdef hnew (upTo_keeps P hkid hdef hnew ls k) (upTo_first ls k).2.1 _ _ (by omega)
end Go.Proofs.YtnhidaamfnjdjaaGreatDoor
namespace Go.Proofs.YtnhidaamfnjdjaaGreatDoor
open Go.RowKit Go.Maps

theorem add_numd {s : PS} (h : Numd s) (hok : s.Ok) (l : Bs) (no : Int) (hno : no ≠ 0) : Numd (s.add l no).1 := by
  unfold PS.add
  split
  · exact h
  · split
    · exact h
    · split
      · exact h
      · rename_i h2
        dsimp only
        split
        · exact h
        · refine h.put _ _ _ (hok.above (PS.fits_lt ?_)) hno
          cases hh : s.fits ((l.length - (trimB l).length) / 2) with
          | true => rfl
          | false => exact absurd (.inr hh) h2
theorem upTo_numd (ls : List Bs) : ∀ k, Numd (upTo ls k)
  | 0 => ⟨by show 0 < 1; decide, fun j h0 hj => by simp [upTo, startP] at hj; omega⟩
  | k + 1 => add_numd (upTo_numd ls k) (upTo_ok ls k) _ _ (by omega)

theorem text_names (text : Bs) (s : PS) (hs : (parseF text (linesF text)).1 = some s) : NamesOk s.nodes ∧ 0 < rootOf s ∧ rootOf s < s.nodes.length := by
  obtain ⟨_, hrel⟩ := parse_rel text
  obtain ⟨rp, _, hp⟩ := hrel s hs
  obtain ⟨_, rfl, hc⟩ := parseF_done_iff _ _ _ hs
  have hn := upTo_numd (linesF text) (linesF text).length
  have hd := upTo_keeps (fun n => DecL n.kind n.name n.expr) (fun _ _ h => h) (fun x => by rcases x with x | x <;> exact absurd x (by decide)) (fun body above _ h _ => readLine_dec body above h) (linesF text) (linesF text).length
  obtain ⟨E, par, hw⟩ := upTo_walked (linesF text) (linesF text).length
  have hr := (root_lt _ _ hc).1
  generalize upTo (linesF text) (linesF text).length = s at *
  refine ⟨⟨hn.2, hw.up, fun i h0 hi => ?_, fun i h0 hi hdb => ?_⟩, root_in hw hr⟩
  · have hlen := hp.len
    have := (hp.node (i - 1) (by omega)).wf
    have e : i - 1 + 1 = i := by omega
    rw [e] at this
    exact this
  · have hm : s.nodes.getD i default ∈ s.nodes.drop 1 := by
      rw [getD_lt _ _ _ hi, List.mem_drop_iff_getElem]
      exact ⟨i - 1, by omega, by congr 1; omega⟩
    refine hd _ hm ?_
    unfold declB at hdb
    simpa using hdb

/-- names: the program's line is the reference's, of any text that both have read -/
theorem names_text (text : Bs) (s : PS) (hs : (parseF text (linesF text)).1 = some s) : (namedF s).1.line = rnamesF s.nodes s.nodes.length [] (rootOf s) := by
  obtain ⟨hok, h0, hi⟩ := text_names text s hs
  have := names_rel hok s.nodes.length (startR, s.nodes) (rootOf s) [] ⟨[], by simp, .nil⟩ rfl h0 hi
  exact this.1
end Go.Proofs.YtnhidaamfnjdjaaGreatDoor
