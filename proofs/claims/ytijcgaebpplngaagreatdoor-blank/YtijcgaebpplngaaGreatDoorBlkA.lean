import Derived.Test.YtijcgaebpplngaaGreatDoorGoodB
/- LINES ONE BY ONE, plain: a text's lines, what is erased when only the shape counts. Nothing of the dump. -/
namespace Go.Proofs.YtijcgaebpplngaaGreatDoor
open Go.RowKit

/- cut by newlines -/
theorem index_no : ∀ s : Bs, (10 : UInt8) ∉ s → Lib.index s [10] = -1
  | [], _ => rfl
  | c :: s, h => by
    simp only [List.mem_cons, not_or] at h
    have h1 : ([10] : Bs).isPrefixOf (c :: s) = false := by simp [List.isPrefixOf, h.1]
    unfold Lib.index
    rw [h1, index_no s h.2]
    rfl
theorem index_at : ∀ (l r : Bs), (10 : UInt8) ∉ l → Lib.index (l ++ 10 :: r) [10] = (l.length : Int)
  | [], r, _ => by simp [Lib.index, List.isPrefixOf]
  | c :: l, r, h => by
    simp only [List.mem_cons, not_or] at h
    have h1 : ([10] : Bs).isPrefixOf (c :: (l ++ 10 :: r)) = false := by simp [List.isPrefixOf, h.1]
    have e : Lib.index (c :: l ++ 10 :: r) [10] = if ([10] : Bs).isPrefixOf (c :: (l ++ 10 :: r)) then 0 else if Lib.index (l ++ 10 :: r) [10] == -1 then -1 else Lib.index (l ++ 10 :: r) [10] + 1 := rfl
    rw [e, h1, index_at l r h.2]
    simp only [Bool.false_eq_true, if_false]
    rw [if_neg (by simp)]
    simp
theorem count_at : ∀ (f : Nat) (s : Bs), s.length < f → Lib.countFrom [10] f s = s.count 10
  | 0, s, h => by omega
  | f + 1, s, h => by
    unfold Lib.countFrom
    by_cases hm : (10 : UInt8) ∈ s
    · obtain ⟨l, r, rfl, hl⟩ := List.eq_append_cons_of_mem hm
      rw [index_at l r hl, if_neg (by simp)]
      have : (l ++ 10 :: r).drop (Int.toNat (l.length : Int) + ([10] : Bs).length) = r := by
        simp [List.drop_append]
      rw [this, count_at f r (by simp at h; omega)]
      rw [List.count_append, List.count_eq_zero.2 hl, List.count_cons_self]
      omega
    · rw [index_no s hm, List.count_eq_zero.2 hm]
      rfl
theorem split_no (k : Nat) (s : Bs) (h : (10 : UInt8) ∉ s) : Lib.splitK [10] 0 k s = [s] := by
  cases k with
  | zero => rfl
  | succ k => unfold Lib.splitK; rw [index_no s h]; rfl
theorem linesF_no (s : Bs) (h : (10 : UInt8) ∉ s) : linesF s = [s] := split_no _ s h
theorem linesF_cons (l r : Bs) (h : (10 : UInt8) ∉ l) : linesF (l ++ 10 :: r) = l :: linesF r := by
  unfold linesF Lib.split Lib.count
  rw [count_at _ _ (by omega), count_at _ _ (by omega), List.count_append, List.count_eq_zero.2 h, List.count_cons_self, Nat.zero_add]
  show (if _ then _ else _) = _
  rw [index_at l r h, if_neg (by simp)]
  have : (l ++ 10 :: r).drop (Int.toNat (l.length : Int) + ([10] : Bs).length) = r := by simp [List.drop_append]
  rw [this]
  simp
def flatL (ls : List Bs) : Bs := ls.flatMap fun l => l ++ [10]
theorem linesF_flat : ∀ ls : List Bs, (∀ l ∈ ls, (10 : UInt8) ∉ l) → linesF (flatL ls) = ls ++ [[]]
  | [], _ => linesF_no [] (by simp)
  | l :: ls, h => by
    have e : flatL (l :: ls) = l ++ 10 :: flatL ls := by simp [flatL]
    rw [e, linesF_cons l _ (h l (by simp)), linesF_flat ls (fun x hx => h x (by simp [hx]))]
    rfl

/- lines, one after the other -/
inductive Gone where
  | ok (s : PS)
  | err (e l : Int)
def goL : PS → Nat → List Bs → Gone
  | s, _, [] => .ok s
  | s, n, l :: r => if (s.add l ((n : Int) + 1)).2 ≠ 0 then .err (s.add l ((n : Int) + 1)).2 ((n : Int) + 1) else goL (s.add l ((n : Int) + 1)).1 (n + 1) r
theorem goL_cons (s : PS) (n : Nat) (l : Bs) (r : List Bs) : goL s n (l :: r) = if (s.add l ((n : Int) + 1)).2 ≠ 0 then .err (s.add l ((n : Int) + 1)).2 ((n : Int) + 1) else goL (s.add l ((n : Int) + 1)).1 (n + 1) r := rfl
theorem goL_append : ∀ (a b : List Bs) (s : PS) (n : Nat), goL s n (a ++ b) = match goL s n a with | .ok s' => goL s' (n + a.length) b | .err e l => .err e l
  | [], b, s, n => rfl
  | x :: a, b, s, n => by
    rw [List.cons_append, goL_cons, goL_cons]
    by_cases h : (s.add x ((n : Int) + 1)).2 ≠ 0
    · rw [if_pos h, if_pos h]
    · rw [if_neg h, if_neg h, goL_append a b]
      have : n + 1 + a.length = n + (x :: a).length := by simp; omega
      rw [this]
theorem goL_first (ls : List Bs) : ∀ (m k : Nat), ls.length = k + m → goL (upTo ls k) k (ls.drop k) = match firstErr ls m k with | some (j, e) => .err e ((j : Int) + 1) | none => .ok (upTo ls ls.length)
  | 0, k, h => by
    rw [List.drop_eq_nil_of_le (by omega)]
    have : k = ls.length := by omega
    subst this
    rfl
  | m + 1, k, h => by
    have hk : k < ls.length := by omega
    rw [List.drop_eq_getElem_cons hk]
    have e : ls[k] = ls.getD k [] := by simp [List.getD, hk]
    unfold firstErr goL
    rw [e]
    by_cases h1 : errAt ls k ≠ 0
    · have h2 : ((upTo ls k).add (ls.getD k []) ((k : Int) + 1)).2 ≠ 0 := h1
      rw [if_pos h1, if_pos h2]
      rfl
    · have h2 : ¬ ((upTo ls k).add (ls.getD k []) ((k : Int) + 1)).2 ≠ 0 := h1
      rw [if_neg h1, if_neg h2]
      exact goL_first ls m (k + 1) (by omega)
theorem parseF_go (text : Bs) (h : text.length ≤ 800) (ls : List Bs) : parseF text ls = match goL startP 0 ls with | .err e l => (none, e, l) | .ok s => if s.complete 0 then (some s, 0, 0) else (none, 2, (ls.length : Int) + 1) := by
  have := goL_first ls ls.length 0 (by omega)
  simp only [List.drop_zero] at this
  have e : upTo ls 0 = startP := rfl
  rw [e] at this
  unfold parseF
  rw [if_neg (by omega), this]
  cases firstErr ls ls.length 0 with
  | none => rfl
  | some p => rfl
theorem goL_ok (ls : List Bs) (s : PS) (h : goL startP 0 ls = .ok s) : s = upTo ls ls.length := by
  have := goL_first ls ls.length 0 (by omega)
  simp only [List.drop_zero] at this
  have e : upTo ls 0 = startP := rfl
  rw [e, h] at this
  cases hf : firstErr ls ls.length 0 with
  | none => rw [hf] at this; injection this
  | some p => rw [hf] at this; cases this

/- one line -/
theorem trimB_sp (n : Nat) (b : Bs) : trimB (List.replicate n 32 ++ b) = trimB b := by
  induction n with
  | zero => rfl
  | succ n ih =>
    have : List.replicate (n + 1) (32 : UInt8) ++ b = 32 :: (List.replicate n 32 ++ b) := by simp [List.replicate_succ]
    rw [this]
    have e : trimB (32 :: (List.replicate n 32 ++ b)) = trimB (List.replicate n 32 ++ b) := by unfold trimB Lib.trimLeftB; simp
    rw [e]; exact ih
theorem addP_blank (s : PS) (n : Nat) (no : Int) : s.add (List.replicate n 32) no = (s, 0) := by
  have h := trimB_sp n []
  simp only [List.append_nil] at h
  have h0 : trimB [] = [] := rfl
  unfold PS.add
  rw [h, h0, if_pos rfl]
def aboveFor (k : Int) : Int := if k = 12 then 11 else if k = 14 then 13 else 7
def clsB (above k : Int) : Bool := if above = 11 then k == 12 else if above = 13 then k == 14 else k != 12 && k != 14
theorem readLineF_cls (b : Bs) (above k : Int) (h : clsB above k = true) : readLineF b above = readLineF b (aboveFor k) := by
  have key : ∀ σ, lineF above σ = lineF (aboveFor k) σ := by
    intro σ
    unfold clsB at h
    split at h
    · rename_i h1; subst h1
      have : k = 12 := by simpa using h
      subst this; rfl
    · rename_i h1
      split at h
      · rename_i h2; subst h2
        have : k = 14 := by simpa using h
        subst this; rfl
      · rename_i h2
        simp at h
        have : aboveFor k = 7 := by unfold aboveFor; rw [if_neg h.1, if_neg h.2]
        rw [this]
        unfold lineF
        rw [if_neg h1, if_neg h2]
        rfl
  unfold readLineF
  rw [key]
def headOk (b : Bs) : Bool := match b with | [] => false | c :: _ => c != 32
theorem trimB_head (b : Bs) (h : headOk b = true) : trimB b = b ∧ b ≠ [] := by
  cases b with
  | nil => cases h
  | cons c b =>
    have hc : c ≠ 32 := by simpa [headOk] using h
    refine ⟨?_, by simp⟩
    unfold trimB Lib.trimLeftB
    simp [hc]
/-- may a line of this kind stand in so far? -/
def mayB (s : PS) (d : Nat) (k : Int) : Bool := decide (d ≤ 10) && s.fits d && clsB (s.at (s.above d)).kind k
theorem add_real (s : PS) (d : Nat) (b : Bs) (k : Int) (no : Int) (hb : headOk b = true) (hm : mayB s d k = true) :
    s.add (List.replicate (2 * d) 32 ++ b) no = if (readLineF b (aboveFor k)).2 ≠ 0 then (s, (readLineF b (aboveFor k)).2) else (s.put d (readLineF b (aboveFor k)).1 no, 0) := by
  obtain ⟨h1, h2⟩ := trimB_head b hb
  simp only [mayB, Bool.and_eq_true, decide_eq_true_eq] at hm
  obtain ⟨⟨hd, hf⟩, hc⟩ := hm
  have e : trimB (List.replicate (2 * d) 32 ++ b) = b := (trimB_sp _ _).trans h1
  have el : (List.replicate (2 * d) (32 : UInt8) ++ b).length - b.length = 2 * d := by simp
  have e2 : 2 * d / 2 = d := by omega
  unfold PS.add
  rw [e, if_neg h2, el, e2, if_neg (by omega), if_neg (by rw [hf]; simp)]
  dsimp only
  rw [readLineF_cls b _ k hc]

/- what is erased: numbers, and the lines' numbers -/
def PE.er : PE → PE
  | .nil => .nil
  | .num _ => .num 0
  | .var n d => .var n d
  | .pair op a b => .pair op a.er b.er
def PNode.er (n : PNode) : PNode := { n with line := 1, expr := n.expr.er }
def LP.er (p : LP) : LP := { p with expr := p.expr.er }
def PS.er (s : PS) : PS := ⟨s.nodes.map PNode.er, s.chain⟩

theorem er_at (ns : List PNode) (i : Nat) (h : i < ns.length) : (ns.map PNode.er).getD i default = (ns.getD i default).er := by
  simp [List.getD, h]
theorem er_kids (ns : List PNode) (i : Nat) : ((ns.map PNode.er).getD i default).kids = (ns.getD i default).kids := by
  rcases Nat.lt_or_ge i ns.length with h | h
  · rw [er_at ns i h]; rfl
  · rw [getD_ge _ _ _ h, getD_ge _ _ _ (by simpa using h)]
theorem er_kind (ns : List PNode) (i : Nat) : ((ns.map PNode.er).getD i default).kind = (ns.getD i default).kind := by
  rcases Nat.lt_or_ge i ns.length with h | h
  · rw [er_at ns i h]; rfl
  · rw [getD_ge _ _ _ h, getD_ge _ _ _ (by simpa using h)]
theorem er_atk (s : PS) (i : Nat) : (s.er.at i).kids = (s.at i).kids ∧ (s.er.at i).kind = (s.at i).kind := ⟨er_kids s.nodes i, er_kind s.nodes i⟩
theorem er_full (s : PS) (i : Nat) : s.er.full i = s.full i := by
  unfold PS.full; rw [(er_atk s i).1, (er_atk s i).2]
theorem er_complete (s : PS) (d : Nat) : s.er.complete d = s.complete d := by
  unfold PS.complete
  show (s.chain.drop d).all s.er.full = _
  congr 1
  funext i
  exact er_full s i
theorem er_fits (s : PS) (d : Nat) : s.er.fits d = s.fits d := by
  unfold PS.fits
  rw [er_complete]
  have : s.er.above d = s.above d := rfl
  rw [this, (er_atk s _).1, (er_atk s _).2]
  rfl
theorem er_may (s : PS) (d : Nat) (k : Int) : mayB s.er d k = mayB s d k := by
  unfold mayB
  rw [er_fits]
  have : s.er.above d = s.above d := rfl
  rw [this, (er_atk s _).2]
theorem er_put (s : PS) (d : Nat) (p : LP) (no : Int) (h : s.above d < s.nodes.length) : (s.put d p no).er = s.er.put d p.er 1 := by
  have e1 : s.er.above d = s.above d := rfl
  have e2 : s.er.at (s.above d) = (s.at (s.above d)).er := er_at s.nodes _ h
  have e3 : s.er.nodes.length = s.nodes.length := by simp [PS.er]
  have e4 : s.er.chain = s.chain := rfl
  have e5 : s.er.nodes = s.nodes.map PNode.er := rfl
  unfold PS.put
  rw [e1, e2, e3, e4, e5]
  unfold PS.er
  simp only [List.map_append, List.map_set]
  rfl

/-- lines of these depths and kinds, one after the other; none: one of them may not stand there -/
def runE : PS → List (Nat × LP) → Option PS
  | s, [] => some s
  | s, x :: r => if mayB s x.1 x.2.kind then runE (s.put x.1 x.2 1) r else none

/-- each line has a number -/
def Numd (s : PS) : Prop := 0 < s.nodes.length ∧ ∀ j, 0 < j → j < s.nodes.length → (s.at j).line ≠ 0
theorem Numd.put {s : PS} (h : Numd s) (d : Nat) (p : LP) (no : Int) (hd : s.above d < s.nodes.length) (hn : no ≠ 0) : Numd (s.put d p no) := by
  refine ⟨by simp [PS.put], ?_⟩
  intro j h0 hj
  rw [put_at s d p no hd j]
  have hl : (s.put d p no).nodes.length = s.nodes.length + 1 := by simp [PS.put]
  rw [hl] at hj
  split
  · rename_i e; exact h.2 j h0 (by omega)
  · split
    · exact hn
    · exact h.2 j h0 (by omega)

/-- how a line is written: its bytes without the blanks ahead, and what is read -/
structure Item where
  d : Nat
  b : Bs
  p : LP
def wrB (bad i : Nat) : Bs := if i = bad then [32, 33, 32, 59] else []
def tlB (b i : Nat) : Bs := if 0 < b ∧ i % 2 = 1 then [32] else []
def lay (bad put b : Nat) : Nat → List Item → List Bs
  | _, [] => []
  | i, x :: r => (if i = put then [List.replicate b 32] else []) ++ (List.replicate (2 * x.d) 32 ++ (x.b ++ wrB bad i ++ tlB b i)) :: lay bad put b (i + 1) r
structure Item.Ok (x : Item) : Prop where
  head : headOk x.b = true
  fine : readLineF x.b (aboveFor x.p.kind) = (x.p, 0) ∧ readLineF (x.b ++ [32]) (aboveFor x.p.kind) = (x.p, 0)
  bad : (readLineF (x.b ++ [32, 33, 32, 59]) (aboveFor x.p.kind)).2 = 2 ∧ (readLineF (x.b ++ [32, 33, 32, 59] ++ [32]) (aboveFor x.p.kind)).2 = 2
  nl : (10 : UInt8) ∉ x.b
theorem headOk_append (b c : Bs) (h : headOk b = true) : headOk (b ++ c) = true := by
  cases b with
  | nil => cases h
  | cons x b => exact h
theorem Item.Ok.reads {x : Item} (h : x.Ok) (bad b i : Nat) (hi : i ≠ bad) : readLineF (x.b ++ wrB bad i ++ tlB b i) (aboveFor x.p.kind) = (x.p, 0) := by
  unfold wrB tlB
  rw [if_neg hi, List.append_nil]
  split
  · exact h.fine.2
  · rw [List.append_nil]; exact h.fine.1
theorem Item.Ok.fails {x : Item} (h : x.Ok) (b i : Nat) : (readLineF (x.b ++ wrB i i ++ tlB b i) (aboveFor x.p.kind)).2 = 2 := by
  unfold wrB tlB
  rw [if_pos rfl]
  split
  · exact h.bad.2
  · rw [List.append_nil]; exact h.bad.1

theorem may_above (s : PS) (d : Nat) (k : Int) (h : mayB s d k = true) (hc : ∀ i ∈ s.chain, i < s.nodes.length) : s.above d < s.nodes.length := by
  simp only [mayB, Bool.and_eq_true, decide_eq_true_eq] at h
  have hd := PS.fits_lt h.1.2
  unfold PS.above
  rw [getD_lt _ _ _ hd]
  exact hc _ (List.getElem_mem hd)

theorem goL_blank (s : PS) (n b : Nat) (r : List Bs) : goL s n (List.replicate b 32 :: r) = goL s (n + 1) r := by
  show (if _ then _ else _) = _
  rw [addP_blank, if_neg (by simp)]
theorem goL_real (s : PS) (n d : Nat) (b : Bs) (p : LP) (r : List Bs) (hb : headOk b = true) (hm : mayB s d p.kind = true) (hr : readLineF b (aboveFor p.kind) = (p, 0)) :
    goL s n ((List.replicate (2 * d) 32 ++ b) :: r) = goL (s.put d p ((n : Int) + 1)) (n + 1) r := by
  show (if _ then _ else _) = _
  rw [add_real s d b p.kind _ hb hm, hr, if_neg (by simp), if_neg (by simp)]
theorem goL_wrong (s : PS) (n d : Nat) (b : Bs) (k : Int) (r : List Bs) (hb : headOk b = true) (hm : mayB s d k = true) (hr : (readLineF b (aboveFor k)).2 = 2) :
    goL s n ((List.replicate (2 * d) 32 ++ b) :: r) = .err 2 ((n : Int) + 1) := by
  show (if _ then _ else _) = _
  rw [add_real s d b k _ hb hm, hr, if_pos (show (2 : Int) ≠ 0 by decide), if_pos (show (2 : Int) ≠ 0 by decide)]

theorem go_lay (bad put b : Nat) : ∀ (xs : List Item) (i : Nat) (s : PS) (n : Nat) (t : PS), (∀ x ∈ xs, x.Ok) → s.Ok → Numd s → runE s.er (xs.map fun x => (x.d, x.p.er)) = some t → (bad < i ∨ i + xs.length ≤ bad) →
    ∃ s', goL s n (lay bad put b i xs) = .ok s' ∧ s'.er = t ∧ Numd s'
  | [], i, s, n, t, _, _, hn, hr, _ => ⟨s, rfl, by injection hr, hn⟩
  | x :: xs, i, s, n, t, hx, hs, hn, hr, hb => by
    have hxo := hx x (by simp)
    have hlen : (x :: xs).length = xs.length + 1 := rfl
    have hr' : (if mayB s.er x.d x.p.er.kind then runE (s.er.put x.d x.p.er 1) (xs.map fun x => (x.d, x.p.er)) else none) = some t := hr
    have hk : x.p.er.kind = x.p.kind := rfl
    rw [er_may, hk] at hr'
    by_cases hm : mayB s x.d x.p.kind = true
    · rw [if_pos hm] at hr'
      have ha := may_above s x.d _ hm hs.chain
      have hd : x.d ≤ 10 := by
        simp only [mayB, Bool.and_eq_true, decide_eq_true_eq] at hm; exact hm.1.1
      have hrd := hxo.reads bad b i (by omega)
      have hh : headOk (x.b ++ wrB bad i ++ tlB b i) = true := headOk_append _ _ (headOk_append _ _ hxo.head)
      have step : ∀ m : Nat, ∃ s', goL s m ((List.replicate (2 * x.d) 32 ++ (x.b ++ wrB bad i ++ tlB b i)) :: lay bad put b (i + 1) xs) = .ok s' ∧ s'.er = t ∧ Numd s' := by
        intro m
        rw [goL_real s m x.d _ x.p _ hh hm hrd]
        have hr2 := hr'
        rw [← er_put s x.d x.p ((m : Int) + 1) ha] at hr2
        exact go_lay bad put b xs (i + 1) _ (m + 1) t (fun y hy => hx y (by simp [hy])) (hs.put x.d hd _ _) (hn.put x.d x.p _ ha (by omega)) hr2 (by omega)
      unfold lay
      split
      · rw [List.singleton_append, goL_blank]
        exact step _
      · exact step _
    · rw [if_neg hm] at hr'
      cases hr'

theorem go_wrong (bad put b : Nat) : ∀ (xs : List Item) (i : Nat) (s : PS) (n : Nat) (t : PS), (∀ x ∈ xs, x.Ok) → s.Ok → Numd s → runE s.er (xs.map fun x => (x.d, x.p.er)) = some t → i ≤ bad → bad < i + xs.length →
    goL s n (lay bad put b i xs) = .err 2 ((n : Int) + ((bad : Int) - (i : Int)) + 1 + (if i ≤ put ∧ put ≤ bad then 1 else 0))
  | [], i, s, n, t, _, _, hn, hr, h1, h2 => by simp at h2; omega
  | x :: xs, i, s, n, t, hx, hs, hn, hr, h1, h2 => by
    have hxo := hx x (by simp)
    have hlen : (x :: xs).length = xs.length + 1 := rfl
    have hr' : (if mayB s.er x.d x.p.er.kind then runE (s.er.put x.d x.p.er 1) (xs.map fun x => (x.d, x.p.er)) else none) = some t := hr
    have hk : x.p.er.kind = x.p.kind := rfl
    rw [er_may, hk] at hr'
    by_cases hm : mayB s x.d x.p.kind = true
    · rw [if_pos hm] at hr'
      have ha := may_above s x.d _ hm hs.chain
      have hd : x.d ≤ 10 := by
        simp only [mayB, Bool.and_eq_true, decide_eq_true_eq] at hm; exact hm.1.1
      have hh : headOk (x.b ++ wrB bad i ++ tlB b i) = true := headOk_append _ _ (headOk_append _ _ hxo.head)
      by_cases hi : i = bad
      · subst hi
        have step : ∀ m : Nat, goL s m ((List.replicate (2 * x.d) 32 ++ (x.b ++ wrB i i ++ tlB b i)) :: lay i put b (i + 1) xs) = .err 2 ((m : Int) + 1) := fun m => goL_wrong s m x.d _ x.p.kind _ hh hm (hxo.fails b i)
        unfold lay
        by_cases hp : i = put
        · rw [if_pos hp]
          rw [List.singleton_append, goL_blank, step, if_pos (by omega)]
          congr 1
          push_cast
          omega
        · rw [if_neg hp]
          rw [List.nil_append, step, if_neg (by omega)]
          congr 1
          omega
      · have hrd := hxo.reads bad b i hi
        have step : ∀ m : Nat, goL s m ((List.replicate (2 * x.d) 32 ++ (x.b ++ wrB bad i ++ tlB b i)) :: lay bad put b (i + 1) xs) = .err 2 (((m + 1 : Nat) : Int) + ((bad : Int) - ((i + 1 : Nat) : Int)) + 1 + (if i + 1 ≤ put ∧ put ≤ bad then 1 else 0)) := by
          intro m
          rw [goL_real s m x.d _ x.p _ hh hm hrd]
          have hr2 := hr'
          rw [← er_put s x.d x.p ((m : Int) + 1) ha] at hr2
          exact go_wrong bad put b xs (i + 1) _ (m + 1) t (fun y hy => hx y (by simp [hy])) (hs.put x.d hd _ _) (hn.put x.d x.p _ ha (by omega)) hr2 (by omega) (by omega)
        unfold lay
        by_cases hp : i = put
        · rw [if_pos hp]
          rw [List.singleton_append, goL_blank, step, if_neg (by omega), if_pos (by omega)]
          congr 1
          push_cast
          omega
        · rw [if_neg hp]
          rw [List.nil_append, step]
          congr 1
          by_cases hq : i ≤ put ∧ put ≤ bad
          · rw [if_pos (by omega), if_pos hq]; push_cast; omega
          · rw [if_neg (by omega), if_neg hq]; push_cast; omega
    · rw [if_neg hm] at hr'
      cases hr'
end Go.Proofs.YtijcgaebpplngaaGreatDoor
