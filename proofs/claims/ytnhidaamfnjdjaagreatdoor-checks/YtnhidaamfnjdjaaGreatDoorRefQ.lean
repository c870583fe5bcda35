import Derived.Test.YtnhidaamfnjdjaaGreatDoorRefC
/- THE REFERENCE's READER, plain, beside the program's: they come to the same error. Nothing of the dump but through what is imported. -/
namespace Go.Proofs.YtnhidaamfnjdjaaGreatDoor
open Go.RowKit Go.Maps

structure RX where
  op : UInt8
  name : Bs
  n : Int
  a : Nat
  b : Nat
structure XR where
  toks : List Bs
  at_ : Nat
  nest : Int
  e : Int
  xs : List RX

def XR.now (s : XR) : Bs := s.toks.getD s.at_ []
def XR.wrong (s : XR) (c : Int) : XR := if s.e = 0 then { s with e := c } else s
def XR.step (s : XR) : XR := { s with at_ := s.at_ + 1 }
def XR.must (s : XR) (t : Bs) : XR := (if s.now = t then s else s.wrong 2).step
def XR.name (s : XR) : Bs × XR := (s.now, (if rnameB s.now then s else s.wrong 2).step)
def XR.put (s : XR) (x : RX) : Nat × XR := (s.xs.length, { s with xs := s.xs ++ [x] })
def ropB (t : Bs) : Bool := opersB.any fun c => t == [c]
def digitsV (t : Bs) : Int := t.foldl (fun a c => wrap64 (wrap64 (10 * a) + ((c.toNat : Int) - 48))) 0

/-- what follows an operand -/
def rtail (f : XR → Nat × XR) (p : Nat × XR) : Nat × XR :=
  if ropB p.2.now then
    if p.2.e ≠ 0 then p else
      (f p.2.step).2.put ⟨p.2.now.headD 0, [], 0, p.1, (f p.2.step).1⟩
  else p
def rleaf (s : XR) : Nat × XR :=
  if !(s.now == []) && classF (s.now.headD 0) == 49 then s.step.put ⟨0, [], digitsV s.now, 0, 0⟩
  else s.name.2.put ⟨0, s.name.1, 0, 0, 0⟩
def rinner (f : XR → Nat × XR) (s : XR) : Nat × XR :=
  let q := rtail f (f { s.step with nest := s.nest + 1 })
  (q.1, ({ q.2 with nest := q.2.nest - 1 } : XR).must [41])
def roperand : Nat → XR → Nat × XR
  | 0, s => if s.e ≠ 0 then (0, s) else if s.now = [40] then (0, s.wrong 3) else rleaf s
  | n + 1, s => if s.e ≠ 0 then (0, s) else if s.now = [40] then rinner (roperand n) s else rleaf s
def rexpr (n : Nat) (s : XR) : Nat × XR := rtail (roperand n) (roperand n s)

/- the tokens that a reader still has ahead of it -/
def toksOf (σ : RS) : List Bs := if σ.kind = 0 then [] else if σ.kind = 1 then [[120, 33]] else σ.text :: toksF σ.rest
theorem toksF_next (l : Bs) : toksF l = if (nextS l).kind = 0 then [] else if (nextS l).kind = 1 then [[120, 33]] else (nextS l).text :: toksF (nextS l).rest := by
  unfold toksF
  conv => lhs; unfold toksN
  split
  · rfl
  · rename_i h
    split
    · rfl
    · have := nextS_rest l h
      rw [toksN_fuel _ ((nextS l).rest.length + 1) _ (by omega) (by omega)]
theorem toksOf_next (σ : RS) : toksOf σ.next = toksF σ.rest := by
  rw [toksF_next]; rfl

/-- of which make a token is -/
inductive TokOk : Int → Bs → Prop where
  | fin : TokOk 0 []
  | bad : TokOk 1 []
  | word (t : Bs) (c : UInt8) (u : Bs) (h : t = c :: u) (hl : ∀ x ∈ t, isLetterB x.toNat = true) : TokOk 2 t
  | num (t : Bs) (c : UInt8) (u : Bs) (h : t = c :: u) (hd : isDigitB c.toNat = true) : TokOk 3 t
  | gets : TokOk 4 [58, 61]
  | sign (c : UInt8) (h : c ∈ signsB) : TokOk 4 [c]
theorem take_span_cons (p : Int → Bool) (c : UInt8) (r : Bs) (h : p c.toNat = true) : (c :: r).take (spanN p (c :: r)) = c :: (r.takeWhile fun c => p c.toNat) ∧ ∀ x ∈ (c :: r).take (spanN p (c :: r)), p x.toNat = true := by
  have e := take_span p (c :: r)
  constructor
  · rw [e]; simp [h]
  · rw [e]; intro x hx; exact mem_takeWhile (c :: r) x hx
theorem nextT_tok : ∀ l : Bs, TokOk (nextT l).kind (nextT l).text
  | [] => .fin
  | c :: r => by
    rw [nextT]
    split
    · rename_i h
      unfold cutTok
      split
      · exact .bad
      · have := take_span_cons isLetterB c r h
        exact .word _ c _ this.1 this.2
    · split
      · rename_i h
        unfold cutTok
        split
        · exact .bad
        · exact .num _ c _ (take_span_cons isDigitB c r h).1 h
      · split
        · exact .gets
        · split
          · rename_i h; exact .sign c ((index_ge0 _ _).1 h)
          · exact .bad
theorem next_tok (σ : RS) : TokOk σ.next.kind σ.next.text := nextT_tok _

/-- the two readers beside one another -/
structure Sim (s : XR) (σ : RS) : Prop where
  e : s.e = σ.errno
  rest : s.e = 0 → s.toks.drop s.at_ = toksOf σ ∧ TokOk σ.kind σ.text ∧ s.nest = σ.opn

theorem drop_head {s : XR} {l : List Bs} (h : s.toks.drop s.at_ = l) : s.now = l.headD [] := by
  unfold XR.now
  rw [← h]
  simp [List.getD, List.headD_eq_head?_getD, List.head?_drop]
theorem drop_tail {s : XR} {l : List Bs} (h : s.toks.drop s.at_ = l) : s.toks.drop (s.at_ + 1) = l.tail := by
  rw [← h, List.tail_drop]

/-- a fixed word, nonempty, that is no mark of a wrong one -/
theorem Sim.now_eq {s : XR} {σ : RS} (h : Sim s σ) (he : s.e = 0) (t : Bs) (h1 : t ≠ []) (h2 : t ≠ [120, 33]) : s.now = t ↔ σ.text = t := by
  obtain ⟨hd, hk, _⟩ := h.rest he
  have hn := drop_head hd
  unfold toksOf at hn
  rw [hn]
  revert hk
  generalize σ.kind = k
  generalize σ.text = x
  intro hk
  cases hk with
  | fin => simp
  | bad => constructor
           · intro e; exact absurd e.symm h2
           · intro e; exact absurd e.symm h1
  | word c u h hl => simp
  | num c u h hd => simp
  | gets => simp
  | sign c h => simp
end Go.Proofs.YtnhidaamfnjdjaaGreatDoor
namespace Go.Proofs.YtnhidaamfnjdjaaGreatDoor
open Go.RowKit Go.Maps

theorem head_toks {σ : RS} (hk : TokOk σ.kind σ.text) : (toksOf σ).headD [] = if σ.kind = 1 then [120, 33] else σ.text := by
  unfold toksOf
  revert hk
  generalize σ.kind = k
  generalize σ.text = x
  intro hk
  cases hk <;> simp
theorem class_of_sign (c : UInt8) (h : c ∈ signsB) : classF c = 115 := by unfold classF; rw [if_pos (List.contains_iff_mem.2 h)]
theorem letter_no33 : isLetterB ((33 : UInt8).toNat : Int) = false := by decide
theorem kwB_reserved (t : Bs) (h1 : t ≠ wIn) (h2 : t ≠ wOut) : kwB t = reservedB t := by
  simp [kwB, reservedB, kwordsB, wordsB, h1, h2]
theorem Sim.name_eq {s : XR} {σ : RS} (h : Sim s σ) (he : s.e = 0) : rnameB s.now = σ.atName := by
  obtain ⟨hd, hk, _⟩ := h.rest he
  rw [drop_head hd, head_toks hk]
  unfold RS.atName
  revert hk
  generalize σ.kind = k
  generalize σ.text = x
  intro hk
  cases hk with
  | fin => rfl
  | bad => rfl
  | word _ c u h hl =>
    have hne : x ≠ [] := by rw [h]; simp
    have hx : x ≠ [120, 33] := by
      intro e
      have := hl 33 (by rw [e]; simp)
      rw [letter_no33] at this
      cases this
    have hc : classF (x.headD 0) = 97 := by
      rw [h]
      exact (class_letter c).2 (hl c (by rw [h]; simp))
    show rnameB (if (2 : Int) = 1 then _ else x) = ((2 : Int) == 2 && !reservedB x)
    rw [if_neg (by decide)]
    unfold rnameB
    rw [beq_eq_false_iff_ne.2 hne, beq_eq_false_iff_ne.2 hx, hc]
    by_cases h1 : x = wIn
    · subst h1; rfl
    · by_cases h2 : x = wOut
      · subst h2; rfl
      · rw [beq_eq_false_iff_ne.2 h1, beq_eq_false_iff_ne.2 h2, kwB_reserved x h1 h2]
        simp
  | num _ c u h hd =>
    have hc : (classF (x.headD 0) == 97) = false := by
      rw [h]
      have := (class_digit c).2 hd
      show (classF c == 97) = false
      rw [this]; rfl
    show rnameB (if (3 : Int) = 1 then _ else x) = ((3 : Int) == 2 && !reservedB x)
    rw [if_neg (by decide)]
    unfold rnameB
    rw [hc]
    simp
  | gets => rfl
  | sign c h =>
    show rnameB (if (4 : Int) = 1 then _ else [c]) = ((4 : Int) == 2 && !reservedB [c])
    rw [if_neg (by decide)]
    unfold rnameB
    have : (classF ([c].headD 0) == 97) = false := by
      show (classF c == 97) = false
      rw [class_of_sign c h]; rfl
    rw [this]
    simp
theorem Sim.op_eq {s : XR} {σ : RS} (h : Sim s σ) (he : s.e = 0) : ropB s.now = σ.atOp := by
  obtain ⟨hd, hk, _⟩ := h.rest he
  rw [drop_head hd, head_toks hk]
  unfold RS.atOp
  have word : ∀ (x : Bs) (c : UInt8) (u : Bs), x = c :: u → c ∉ opersB → ropB x = false := by
    intro x c u h hc
    unfold ropB
    rw [List.any_eq_false]
    intro d hd he
    rw [h, beq_iff_eq] at he
    injection he with he _
    exact hc (he ▸ hd)
  have letter : ∀ c : UInt8, c ∈ opersB → isLetterB c.toNat = false ∧ isDigitB c.toNat = false := by
    intro c h
    simp only [opersB, List.mem_cons, List.not_mem_nil, or_false] at h
    rcases h with rfl | rfl | rfl | rfl | rfl | rfl | rfl | rfl <;> decide
  revert hk
  generalize σ.kind = k
  generalize σ.text = x
  intro hk
  cases hk with
  | fin => rfl
  | bad => rfl
  | word _ c u h hl =>
    show ropB x = false
    refine word x c u h (fun hc => ?_)
    have := hl c (by rw [h]; simp)
    rw [(letter c hc).1] at this
    cases this
  | num _ c u h hd =>
    show ropB x = false
    refine word x c u h (fun hc => ?_)
    rw [(letter c hc).2] at hd
    cases hd
  | gets => decide
  | sign c h =>
    simp only [signsB, List.mem_cons, List.not_mem_nil, or_false] at h
    rcases h with rfl | rfl | rfl | rfl | rfl | rfl | rfl | rfl | rfl | rfl | rfl | rfl | rfl <;> decide

/- errors stay -/
theorem RS.fail_err (σ : RS) (e : Int) (h : σ.errno ≠ 0) : (σ.fail e).errno = σ.errno := by unfold RS.fail; simp [h]
theorem RS.next_err (σ : RS) : σ.next.errno = σ.errno := rfl
theorem RS.need_err (σ : RS) (t : Bs) (h : σ.errno ≠ 0) : (σ.need t).errno = σ.errno := by
  unfold RS.need; split
  · rfl
  · exact σ.fail_err 2 h
theorem RS.name_err (σ : RS) (h : σ.errno ≠ 0) : σ.name.2.errno = σ.errno := by
  unfold RS.name; split
  · rfl
  · exact σ.fail_err 2 h
theorem leafF_err (σ : RS) (h : σ.errno ≠ 0) : (leafF σ).2.errno = σ.errno := by
  unfold leafF; split
  · rfl
  · exact σ.name_err h
theorem fromF_err {f : RS → PE × RS} (hf : ∀ σ : RS, σ.errno ≠ 0 → (f σ).2.errno = σ.errno) (p : PE × RS) (h : p.2.errno ≠ 0) : (fromF f p).2.errno = p.2.errno := by
  unfold fromF; split
  · exact hf _ h
  · rfl
theorem operandF_err : ∀ (n : Nat) (σ : RS), σ.errno ≠ 0 → (operandF n σ).2.errno = σ.errno
  | 0, σ, h => by
    unfold operandF; split
    · exact σ.fail_err 3 h
    · exact leafF_err σ h
  | n + 1, σ, h => by
    unfold operandF; split
    · have h1 : (({ σ with opn := σ.opn + 1 } : RS).need [40]).errno = σ.errno := RS.need_err _ _ h
      have h2 := operandF_err n _ (by rw [h1]; exact h)
      have h3 := fromF_err (operandF_err n) (operandF n (({ σ with opn := σ.opn + 1 } : RS).need [40])) (by rw [h2, h1]; exact h)
      show (RS.need _ [41]).errno = σ.errno
      rw [RS.need_err _ _ (by rw [h3, h2, h1]; exact h), h3, h2, h1]
    · exact leafF_err σ h
theorem exprF_err (n : Nat) (σ : RS) (h : σ.errno ≠ 0) : (exprF n σ).2.errno = σ.errno := by
  have h1 := operandF_err n σ h
  exact (fromF_err (operandF_err n) _ (by rw [h1]; exact h)).trans h1

theorem XR.wrong_e (s : XR) (c : Int) : (s.wrong c).e = if s.e = 0 then c else s.e := by unfold XR.wrong; split <;> simp_all
theorem XR.wrong_xs (s : XR) (c : Int) : (s.wrong c).xs = s.xs := by unfold XR.wrong; split <;> rfl
theorem XR.must_xs (s : XR) (t : Bs) : (s.must t).xs = s.xs := by unfold XR.must XR.step; split <;> simp [XR.wrong_xs]

theorem Sim.wrong {s : XR} {σ : RS} (h : Sim s σ) (c : Int) (hc : c ≠ 0) : Sim (s.wrong c) (σ.fail c) := by
  have he : (s.wrong c).e = (σ.fail c).errno := by
    rw [XR.wrong_e]; unfold RS.fail; simp [h.e]
  refine ⟨he, fun h0 => ?_⟩
  rw [XR.wrong_e] at h0
  split at h0
  · exact absurd h0 hc
  · rename_i h1; exact absurd h0 h1
theorem Sim.stepE {s : XR} {σ : RS} (h : Sim s σ) (he : s.e ≠ 0) : Sim s.step σ := ⟨h.e, fun h0 => absurd h0 he⟩
/-- a token further -/
theorem Sim.next {s : XR} {σ : RS} (h : Sim s σ) (he : s.e = 0) (h0 : σ.kind ≠ 0) (h1 : σ.kind ≠ 1) : Sim s.step σ.next := by
  refine ⟨h.e, fun _ => ?_⟩
  obtain ⟨hd, hk, hn⟩ := h.rest he
  refine ⟨?_, next_tok σ, hn⟩
  show s.toks.drop (s.at_ + 1) = _
  rw [drop_tail hd, toksOf_next]
  unfold toksOf
  rw [if_neg h0, if_neg h1]
  rfl
theorem tok_kind {k : Int} {t : Bs} (h : TokOk k t) (ht : t ≠ []) : k ≠ 0 ∧ k ≠ 1 := by
  cases h with
  | fin => exact absurd rfl ht
  | bad => exact absurd rfl ht
  | word _ _ _ _ _ => decide
  | num _ _ _ _ _ => decide
  | gets => decide
  | sign _ _ => decide
theorem Sim.must {s : XR} {σ : RS} (h : Sim s σ) (t : Bs) (h1 : t ≠ []) (h2 : t ≠ [120, 33]) : Sim (s.must t) (σ.need t) := by
  by_cases he : s.e = 0
  · have hn := h.now_eq he t h1 h2
    unfold XR.must RS.need
    by_cases ht : σ.text = t
    · rw [if_pos (hn.2 ht), if_pos ht]
      have := tok_kind (h.rest he).2.1 (by rw [ht]; exact h1)
      exact h.next he this.1 this.2
    · rw [if_neg (fun x => ht (hn.1 x)), if_neg ht]
      have := h.wrong 2 (by decide)
      exact this.stepE (by rw [XR.wrong_e, if_pos he]; decide)
  · have hσ : σ.errno ≠ 0 := by rw [← h.e]; exact he
    have e1 : (s.must t).e = s.e := by
      unfold XR.must XR.step
      split
      · rfl
      · show (s.wrong 2).e = s.e
        rw [XR.wrong_e, if_neg he]
    exact ⟨by rw [e1, RS.need_err σ t hσ]; exact h.e, fun h0 => absurd (e1 ▸ h0) he⟩
theorem Sim.name {s : XR} {σ : RS} (h : Sim s σ) : Sim s.name.2 σ.name.2 ∧ s.name.2.xs = s.xs ∧ (s.name.2.e = 0 → s.name.1 = σ.name.1 ∧ s.name.1 ≠ []) := by
  have hx : s.name.2.xs = s.xs := by unfold XR.name XR.step; dsimp only; split <;> simp [XR.wrong_xs]
  by_cases he : s.e = 0
  · have hn := h.name_eq he
    cases ha : σ.atName with
    | true =>
      have e1 : s.name = (s.now, s.step) := by unfold XR.name; rw [hn, ha]; rfl
      have e2 : σ.name = (σ.text, σ.next) := by unfold RS.name; rw [ha]; rfl
      have hk : σ.kind = 2 := by unfold RS.atName at ha; simp at ha; exact ha.1
      obtain ⟨hd, htk, _⟩ := h.rest he
      have hnow : s.now = σ.text := by rw [drop_head hd, head_toks htk, if_neg (by rw [hk]; decide)]
      rw [e1, e2]
      refine ⟨h.next he (by rw [hk]; decide) (by rw [hk]; decide), rfl, fun _ => ⟨hnow, ?_⟩⟩
      show s.now ≠ []
      rw [hnow]
      rw [hk] at htk
      cases htk with
      | word _ c u hc hl => rw [hc]; simp
    | false =>
      have e1 : s.name = (s.now, (s.wrong 2).step) := by unfold XR.name; rw [hn, ha]; rfl
      have e2 : σ.name = ([], σ.fail 2) := by unfold RS.name; rw [ha]; rfl
      have hw : (s.wrong 2).e ≠ 0 := by rw [XR.wrong_e, if_pos he]; decide
      refine ⟨by rw [e1, e2]; exact (h.wrong 2 (by decide)).stepE hw, hx, fun h0 => ?_⟩
      rw [e1] at h0
      exact absurd h0 hw
  · have hσ : σ.errno ≠ 0 := by rw [← h.e]; exact he
    have e1 : s.name.2.e = s.e := by
      unfold XR.name XR.step
      dsimp only
      split
      · rfl
      · rw [XR.wrong_e, if_neg he]
    exact ⟨⟨by rw [e1, RS.name_err σ hσ]; exact h.e, fun h0 => absurd (e1 ▸ h0) he⟩, hx, fun h0 => absurd (e1 ▸ h0) he⟩
end Go.Proofs.YtnhidaamfnjdjaaGreatDoor
/- EXPRS, read by both. -/
namespace Go.Proofs.YtnhidaamfnjdjaaGreatDoor
open Go.RowKit Go.Maps

/-- an expr by its place in the reference's list; what a number is does not count -/
inductive RepX (xs : List RX) : Nat → PE → Prop where
  | num (p : Nat) (x : RX) (v : Int) (h : xs[p]? = some x) (ho : x.op = 0) (hn : x.name = []) : RepX xs p (.num v)
  | var (p : Nat) (x : RX) (h : xs[p]? = some x) (ho : x.op = 0) (hn : x.name ≠ []) : RepX xs p (.var x.name 0)
  | pair (p : Nat) (x : RX) (a b : PE) (h : xs[p]? = some x) (ho : x.op ≠ 0) (ha : x.a < p) (hb : x.b < p) (ra : RepX xs x.a a) (rb : RepX xs x.b b) : RepX xs p (.pair x.op a b)
theorem get_more {α : Type} {xs : List α} {p : Nat} {x : α} (h : xs[p]? = some x) (ys : List α) : (xs ++ ys)[p]? = some x := by
  have := (List.getElem?_eq_some_iff.1 h).1
  rw [List.getElem?_append_left this]; exact h
theorem RepX.more {xs : List RX} {p : Nat} {e : PE} (h : RepX xs p e) (ys : List RX) : RepX (xs ++ ys) p e := by
  induction h with
  | num p x v h ho hn => exact .num p x v (get_more h ys) ho hn
  | var p x h ho hn => exact .var p x (get_more h ys) ho hn
  | pair p x a b h ho ha hb _ _ ia ib => exact .pair p x a b (get_more h ys) ho ha hb ia ib
theorem RepX.lt {xs : List RX} {p : Nat} {e : PE} (h : RepX xs p e) : p < xs.length := by
  cases h with
  | num _ x v h ho hn => exact (List.getElem?_eq_some_iff.1 h).1
  | var _ x h ho hn => exact (List.getElem?_eq_some_iff.1 h).1
  | pair _ x a b h ho ha hb ra rb => exact (List.getElem?_eq_some_iff.1 h).1

structure XPost (s0 : XR) (r : Nat × XR) (q : PE × RS) : Prop where
  sim : Sim r.2 q.2
  more : ∃ ys, r.2.xs = s0.xs ++ ys
  nest : r.2.nest = s0.nest
  rep : r.2.e = 0 → RepX r.2.xs r.1 q.1

theorem XR.wrong_nest (s : XR) (c : Int) : (s.wrong c).nest = s.nest := by unfold XR.wrong; split <;> rfl
theorem XR.must_nest (s : XR) (t : Bs) : (s.must t).nest = s.nest := by unfold XR.must XR.step; split <;> simp [XR.wrong_nest]
theorem XR.name_nest (s : XR) : s.name.2.nest = s.nest := by unfold XR.name XR.step; dsimp only; split <;> simp [XR.wrong_nest]
theorem XR.put_e (s : XR) (x : RX) : (s.put x).2.e = s.e := rfl

theorem Sim.put {s : XR} {σ : RS} (h : Sim s σ) (x : RX) : Sim (s.put x).2 σ := ⟨h.e, h.rest⟩

theorem Sim.num_eq {s : XR} {σ : RS} (h : Sim s σ) (he : s.e = 0) : (!(s.now == []) && classF (s.now.headD 0) == 49) = decide (σ.kind = 3) := by
  obtain ⟨hd, hk, _⟩ := h.rest he
  rw [drop_head hd, head_toks hk]
  revert hk
  generalize σ.kind = k
  generalize σ.text = x
  intro hk
  cases hk with
  | fin => rfl
  | bad => decide
  | word _ c u h hl =>
    have hc : classF c = 97 := (class_letter c).2 (hl c (by rw [h]; simp))
    rw [if_neg (by decide), h]
    show (true && classF c == 49) = false
    rw [hc]; rfl
  | num _ c u h hd =>
    have hc : classF c = 49 := (class_digit c).2 hd
    rw [if_neg (by decide), h]
    show (true && classF c == 49) = true
    rw [hc]; rfl
  | gets => decide
  | sign c h =>
    rw [if_neg (by decide)]
    show (true && classF c == 49) = false
    rw [class_of_sign c h]; rfl

theorem leaf_sim {s : XR} {σ : RS} (h : Sim s σ) (he : s.e = 0) : XPost s (rleaf s) (leafF σ) := by
  have hn := h.num_eq he
  unfold rleaf leafF
  rw [hn]
  by_cases hk : σ.kind = 3
  · rw [if_pos hk, if_pos (by simpa using hk)]
    refine ⟨(h.next he (by rw [hk]; decide) (by rw [hk]; decide)).put _, ⟨_, rfl⟩, rfl, fun _ => ?_⟩
    refine .num _ ⟨0, [], digitsV s.now, 0, 0⟩ _ ?_ rfl rfl
    show (s.xs ++ [_])[s.xs.length]? = _
    simp
  · rw [if_neg hk, if_neg (by simpa using hk)]
    obtain ⟨h1, h2, h3⟩ := h.name
    refine ⟨h1.put _, ⟨_, by show s.name.2.xs ++ [_] = _; rw [h2]⟩, XR.name_nest s, fun h0 => ?_⟩
    obtain ⟨h4, h5⟩ := h3 h0
    rw [← h4]
    refine .var _ ⟨0, s.name.1, 0, 0, 0⟩ ?_ rfl h5
    show (s.name.2.xs ++ [_])[s.name.2.xs.length]? = _
    simp

theorem oper_text {σ : RS} (hk : TokOk σ.kind σ.text) (h : σ.atOp = true) : σ.kind = 4 ∧ ∃ c, σ.text = [c] ∧ c ≠ 0 := by
  unfold RS.atOp at h
  rw [Bool.and_eq_true] at h
  have h4 : σ.kind = 4 := by simpa using h.1
  refine ⟨h4, ?_⟩
  have h2 := h.2
  rw [h4] at hk
  revert hk h2
  generalize σ.text = x
  intro hk h2
  cases hk with
  | gets => exact absurd h2 (by decide)
  | sign c h =>
    refine ⟨c, rfl, ?_⟩
    rintro rfl
    exact absurd h (by decide)

/-- what follows an operand, read by both -/
theorem tail_sim {s0 : XR} {f : XR → Nat × XR} {g : RS → PE × RS} (m : Int) (hf : ∀ (s : XR) (σ : RS), Sim s σ → s.nest = m → XPost s (f s) (g σ)) (hg : ∀ σ : RS, σ.errno ≠ 0 → (g σ).2.errno = σ.errno)
    {p : Nat × XR} {q : PE × RS} (hm : s0.nest = m) (h : XPost s0 p q) : XPost s0 (rtail f p) (fromF g q) := by
  by_cases he : p.2.e = 0
  · have ho := h.sim.op_eq he
    unfold rtail fromF
    rw [ho]
    by_cases ha : q.2.atOp = true
    · rw [if_pos ha, if_pos ha, if_neg (by simpa using he)]
      obtain ⟨hd, hk, hnn⟩ := h.sim.rest he
      obtain ⟨h4, c, hc, hc0⟩ := oper_text hk ha
      have hnow : p.2.now = [c] := by rw [drop_head hd, head_toks hk, if_neg (by rw [h4]; decide), hc]
      have hs := h.sim.next he (by rw [h4]; decide) (by rw [h4]; decide)
      have hr := hf p.2.step q.2.next hs (by show p.2.nest = m; rw [h.nest, hm])
      obtain ⟨ys, hys⟩ := h.more
      obtain ⟨zs, hzs⟩ := hr.more
      refine ⟨hr.sim.put _, ⟨ys ++ zs ++ [⟨p.2.now.headD 0, [], 0, p.1, (f p.2.step).1⟩], ?_⟩, ?_, fun h0 => ?_⟩
      · show (f p.2.step).2.xs ++ [_] = _
        rw [hzs]
        show p.2.xs ++ zs ++ [_] = _
        rw [hys]
        simp
      · show (f p.2.step).2.nest = s0.nest
        rw [hr.nest]; exact h.nest
      · have hb := hr.rep h0
        have ha2 := (h.rep he).more zs
        have e1 : (f p.2.step).2.xs = p.2.xs ++ zs := hzs
        rw [hc]
        show RepX ((f p.2.step).2.xs ++ [⟨p.2.now.headD 0, [], 0, p.1, (f p.2.step).1⟩]) (f p.2.step).2.xs.length (.pair c q.1 (g q.2.next).1)
        rw [hnow]
        have l1 := ha2.lt
        rw [← e1] at l1
        refine .pair _ ⟨c, [], 0, p.1, (f p.2.step).1⟩ _ _ (by simp) hc0 l1 hb.lt ?_ (hb.more _)
        rw [e1]
        exact ha2.more _
    · rw [if_neg ha, if_neg ha]
      exact h
  · have hσ : q.2.errno ≠ 0 := by rw [← h.sim.e]; exact he
    have e1 : rtail f p = p := by
      unfold rtail
      split
      · first | rfl | exact if_pos he
      · rfl
    rw [e1]
    have h2 := fromF_err hg q hσ
    exact ⟨⟨by rw [h2]; exact h.sim.e, fun h0 => absurd h0 he⟩, h.more, h.nest, fun h0 => absurd h0 he⟩

theorem operand_sim : ∀ (n : Nat) (s : XR) (σ : RS), Sim s σ → s.nest = 4 - (n : Int) → XPost s (roperand n s) (operandF n σ)
  | 0, s, σ, h, _ => by
    by_cases he : s.e = 0
    · have hn := h.now_eq he [40] (by decide) (by decide)
      unfold roperand operandF
      rw [if_neg (by simpa using he)]
      by_cases ht : σ.text = [40]
      · rw [if_pos (hn.2 ht), if_pos ht]
        refine ⟨h.wrong 3 (by decide), ⟨[], by rw [XR.wrong_xs]; simp⟩, XR.wrong_nest _ _, fun h0 => ?_⟩
        have h0 : (s.wrong 3).e = 0 := h0
        rw [XR.wrong_e, if_pos he] at h0
        exact absurd h0 (by decide)
      · rw [if_neg (fun x => ht (hn.1 x)), if_neg ht]
        exact leaf_sim h he
    · have hσ : σ.errno ≠ 0 := by rw [← h.e]; exact he
      unfold roperand
      rw [if_pos he]
      exact ⟨⟨by rw [operandF_err 0 σ hσ]; exact h.e, fun h0 => absurd h0 he⟩, ⟨[], by simp⟩, rfl, fun h0 => absurd h0 he⟩
  | n + 1, s, σ, h, hm => by
    by_cases he : s.e = 0
    · have hn := h.now_eq he [40] (by decide) (by decide)
      unfold roperand operandF
      rw [if_neg (by simpa using he)]
      by_cases ht : σ.text = [40]
      · rw [if_pos (hn.2 ht), if_pos ht]
        have hk := tok_kind (h.rest he).2.1 (by rw [ht]; decide)
        have hs : Sim ({ s.step with nest := s.nest + 1 } : XR) (({ σ with opn := σ.opn + 1 } : RS).need [40]) := by
          have e : (({ σ with opn := σ.opn + 1 } : RS).need [40]) = { σ.next with opn := σ.opn + 1 } := by unfold RS.need; rw [if_pos ht]; rfl
          rw [e]
          have h1 := h.next he hk.1 hk.2
          have h2 := h1.rest he
          exact ⟨h1.e, fun _ => ⟨h2.1, h2.2.1, by show s.nest + 1 = σ.opn + 1; rw [(h.rest he).2.2]⟩⟩
        have h1 := operand_sim n _ _ hs (by show s.nest + 1 = _; rw [hm]; push_cast; omega)
        have h2 := tail_sim (s0 := { s.step with nest := s.nest + 1 }) (4 - (n : Int)) (fun s σ hs hn => operand_sim n s σ hs hn) (operandF_err n) (by show s.nest + 1 = _; rw [hm]; push_cast; omega) h1
        unfold rinner innerF
        dsimp only
        generalize rtail (roperand n) (roperand n { s.step with nest := s.nest + 1 }) = r at h2 ⊢
        generalize fromF (operandF n) (operandF n (({ σ with opn := σ.opn + 1 } : RS).need [40])) = q at h2 ⊢
        have h3 : Sim ({ r.2 with nest := r.2.nest - 1 } : XR) ({ q.2 with opn := q.2.opn - 1 } : RS) := ⟨h2.sim.e, fun h0 => by
          have := h2.sim.rest h0
          exact ⟨this.1, this.2.1, by show r.2.nest - 1 = q.2.opn - 1; rw [this.2.2]⟩⟩
        have h4 := h3.must [41] (by decide) (by decide)
        have e5 : ({ q.2 with opn := q.2.opn - 1 } : RS).need [41] = { q.2.need [41] with opn := (q.2.need [41]).opn - 1 } := by
          by_cases h : q.2.text = [41]
          · have a1 : q.2.need [41] = q.2.next := if_pos h
            have a2 : ({ q.2 with opn := q.2.opn - 1 } : RS).need [41] = ({ q.2 with opn := q.2.opn - 1 } : RS).next := if_pos h
            rw [a1, a2]; rfl
          · have a1 : q.2.need [41] = q.2.fail 2 := if_neg h
            have a2 : ({ q.2 with opn := q.2.opn - 1 } : RS).need [41] = ({ q.2 with opn := q.2.opn - 1 } : RS).fail 2 := if_neg h
            rw [a1, a2]; rfl
        rw [e5] at h4
        refine ⟨h4, ?_, ?_, fun h0 => ?_⟩
        · obtain ⟨ys, hys⟩ := h2.more
          exact ⟨ys, by rw [XR.must_xs]; exact hys⟩
        · rw [XR.must_nest]
          show r.2.nest - 1 = s.nest
          rw [h2.nest]
          show s.nest + 1 - 1 = s.nest
          omega
        · have h5 : r.2.e = 0 := by
            have h6 : (({ r.2 with nest := r.2.nest - 1 } : XR).must [41]).e = 0 := h0
            unfold XR.must XR.step at h6
            split at h6
            · exact h6
            · have h6 : (({ r.2 with nest := r.2.nest - 1 } : XR).wrong 2).e = 0 := h6
              rw [XR.wrong_e] at h6
              split at h6
              · rename_i h7; exact h7
              · exact h6
          show RepX (XR.must _ _).xs r.1 q.1
          rw [XR.must_xs]
          exact h2.rep h5
      · rw [if_neg (fun x => ht (hn.1 x)), if_neg ht]
        exact leaf_sim h he
    · have hσ : σ.errno ≠ 0 := by rw [← h.e]; exact he
      unfold roperand
      rw [if_pos he]
      exact ⟨⟨by rw [operandF_err (n + 1) σ hσ]; exact h.e, fun h0 => absurd h0 he⟩, ⟨[], by simp⟩, rfl, fun h0 => absurd h0 he⟩

theorem expr_sim (s : XR) (σ : RS) (h : Sim s σ) (hm : s.nest = 0) : XPost s (rexpr 4 s) (exprF 4 σ) :=
  tail_sim 0 (fun s σ hs hn => operand_sim 4 s σ hs (by rw [hn]; rfl)) (operandF_err 4) hm (operand_sim 4 s σ h (by rw [hm]; rfl))
end Go.Proofs.YtnhidaamfnjdjaaGreatDoor
/- A LINE, read by both. -/
namespace Go.Proofs.YtnhidaamfnjdjaaGreatDoor
open Go.RowKit Go.Maps

structure RN where
  kind : Bs
  name : Bs
  over : Bs
  ex : Option Nat

def rsource (s : XR) : Bs × XR := if s.now = wIn then (wIn, s.step) else s.name
/-- behind the guard, if there is one -/
def rread (ex : Option Nat) (s : XR) : RN × XR :=
  let o := rsource s
  let m := o.2.must [63]
  (⟨wOn, m.name.1, o.1, ex⟩, m.name.2)
def rover (s : XR) : RN × XR :=
  if s.toks.getD 2 [] = [63] then rread none s else rread (some (rexpr 4 s).1) ((rexpr 4 s).2.must [38])
def bareW : List Bs := [wSkip, wStop, wSeq, wPar, wPri, wIf, wAlt]
def askW : List Bs := [wWait, wWhile, wWhen]
def rswitch (s : XR) : RN × XR :=
  let first := s.now
  let s1 := s.step
  if first ∈ bareW then (⟨first, [], [], none⟩, s1)
  else if first ∈ askW then (⟨first, [], [], some (rexpr 4 s1).1⟩, (rexpr 4 s1).2)
  else if first = wVar ∨ first = wChan then (⟨first, s1.name.1, [], none⟩, s1.name.2)
  else if first = wOn then rover s1
  else
    let s2 := s1.step
    if s1.now = [58, 61] ∧ rnameB first = true then (⟨s1.now, first, [], some (rexpr 4 s2).1⟩, (rexpr 4 s2).2)
    else if s1.now = [33] ∧ (rnameB first = true ∨ first = wOut) then (⟨s1.now, [], first, some (rexpr 4 s2).1⟩, (rexpr 4 s2).2)
    else if s1.now = [63] ∧ (rnameB first = true ∨ first = wIn) then (⟨s1.now, s2.name.1, first, none⟩, s2.name.2)
    else (⟨s1.now, [], [], none⟩, s2.wrong 2)
def rend (s : XR) : XR := if s.at_ < s.toks.length then s.wrong 2 else s
def endF (σ : RS) : Int := if σ.kind = 0 then σ.errno else (σ.fail 2).errno

theorem Sim.fin {s : XR} {σ : RS} (h : Sim s σ) : (rend s).e = endF σ := by
  unfold rend endF
  by_cases he : s.e = 0
  · obtain ⟨hd, hk, _⟩ := h.rest he
    have hσ : σ.errno = 0 := by rw [← h.e]; exact he
    by_cases h0 : σ.kind = 0
    · rw [if_pos h0]
      have hn : toksOf σ = [] := by unfold toksOf; rw [if_pos h0]
      rw [hn, List.drop_eq_nil_iff] at hd
      rw [if_neg (by omega), he, hσ]
    · rw [if_neg h0]
      have hn : toksOf σ ≠ [] := by unfold toksOf; rw [if_neg h0]; split <;> simp
      have hl : s.at_ < s.toks.length := by
        rcases Nat.lt_or_ge s.at_ s.toks.length with x | x
        · exact x
        · rw [List.drop_eq_nil_of_le x] at hd; exact absurd hd.symm hn
      rw [if_pos hl, XR.wrong_e, if_pos he]
      unfold RS.fail
      simp [hσ]
  · have hσ : σ.errno ≠ 0 := by rw [← h.e]; exact he
    have h1 : (if s.at_ < s.toks.length then s.wrong 2 else s).e = s.e := by
      split
      · rw [XR.wrong_e, if_neg he]
      · rfl
    rw [h1, h.e]
    split
    · rfl
    · exact (RS.fail_err σ 2 hσ).symm

def kindOf (t : Bs) : Int :=
  if t = wSkip then 1 else if t = wStop then 2 else if t = [58, 61] then 3 else if t = [33] then 4 else if t = [63] then 5 else if t = wWait then 6 else if t = wSeq then 7 else if t = wPar then 8
  else if t = wPri then 9 else if t = wWhile then 10 else if t = wIf then 11 else if t = wWhen then 12 else if t = wAlt then 13 else if t = wOn then 14 else if t = wVar then 15 else if t = wChan then 16 else 0
/-- which of its words a line of this kind has -/
def WfL (k : Int) (name chan : Bs) : Prop :=
  if k = 3 then name ≠ [] ∧ chan = [] else if k = 4 then name = [] ∧ chan ≠ [] else if k = 5 ∨ k = 14 then name ≠ [] ∧ chan ≠ [] else if k = 15 ∨ k = 16 then name ≠ [] ∧ chan = [] else name = [] ∧ chan = []
structure LRep (xs : List RX) (n : RN) (p : LP) : Prop where
  kind : p.kind = kindOf n.kind
  name : p.name = n.name
  chan : p.chan = n.over
  none : n.ex = none → p.expr = .nil
  some : ∀ k, n.ex = some k → RepX xs k p.expr
  wf : WfL p.kind p.name p.chan

/-- what is read of a line, by both -/
structure LPost (s0 : XR) (r : RN × XR) (q : LP × RS) : Prop where
  sim : Sim r.2 q.2
  more : ∃ ys, r.2.xs = s0.xs ++ ys
  rep : r.2.e = 0 → LRep r.2.xs r.1 q.1

theorem XR.must_e0 {s : XR} {t : Bs} (h : (s.must t).e = 0) : s.e = 0 := by
  unfold XR.must XR.step at h
  split at h
  · exact h
  · have h : (s.wrong 2).e = 0 := h
    rw [XR.wrong_e] at h
    split at h
    · assumption
    · exact h
theorem XR.name_e0 {s : XR} (h : s.name.2.e = 0) : s.e = 0 := by
  unfold XR.name XR.step at h
  dsimp only at h
  split at h
  · exact h
  · rw [XR.wrong_e] at h
    split at h
    · assumption
    · exact h

theorem source_sim {s : XR} {σ : RS} (h : Sim s σ) : Sim (rsource s).2 (sourceF σ).2 ∧ (rsource s).2.xs = s.xs ∧ ((rsource s).2.e = 0 → s.e = 0 ∧ (rsource s).1 = (sourceF σ).1 ∧ (rsource s).1 ≠ []) := by
  by_cases he : s.e = 0
  · have hn := h.now_eq he wIn (by decide) (by decide)
    unfold rsource sourceF
    by_cases ht : σ.text = wIn
    · rw [if_pos (hn.2 ht), if_pos ht]
      have := tok_kind (h.rest he).2.1 (by rw [ht]; decide)
      exact ⟨h.next he this.1 this.2, rfl, fun _ => ⟨he, rfl, by show wIn ≠ []; decide⟩⟩
    · rw [if_neg (fun x => ht (hn.1 x)), if_neg ht]
      obtain ⟨h1, h2, h3⟩ := h.name
      exact ⟨h1, h2, fun h0 => ⟨he, h3 h0⟩⟩
  · have hσ : σ.errno ≠ 0 := by rw [← h.e]; exact he
    have e1 : (rsource s).2.e = s.e := by
      unfold rsource
      split
      · rfl
      · unfold XR.name XR.step
        dsimp only
        split
        · rfl
        · rw [XR.wrong_e, if_neg he]
    have e2 : (sourceF σ).2.errno = σ.errno := by
      unfold sourceF
      split
      · rfl
      · exact σ.name_err hσ
    have e3 : (rsource s).2.xs = s.xs := by
      unfold rsource
      split
      · rfl
      · exact h.name.2.1
    exact ⟨⟨by rw [e1, e2]; exact h.e, fun h0 => absurd (e1 ▸ h0) he⟩, e3, fun h0 => absurd (e1 ▸ h0) he⟩

/-- a channel that is read from, and the variable -/
theorem read_sim {s : XR} {ch : Bs} {σ : RS} (h : Sim s σ) (k : Int) : Sim (s.must [63]).name.2 (readF k ch σ).2 ∧ (s.must [63]).name.2.xs = s.xs ∧ ((s.must [63]).name.2.e = 0 → s.e = 0 ∧ (s.must [63]).name.1 = (readF k ch σ).1.name ∧ (s.must [63]).name.1 ≠ []) := by
  have h1 := h.must [63] (by decide) (by decide)
  obtain ⟨h2, h3, h4⟩ := h1.name
  exact ⟨h2, h3.trans (XR.must_xs _ _), fun h0 => ⟨XR.must_e0 (XR.name_e0 h0), h4 h0⟩⟩
end Go.Proofs.YtnhidaamfnjdjaaGreatDoor
/- A LINE, read by both: the whole of it. -/
namespace Go.Proofs.YtnhidaamfnjdjaaGreatDoor
open Go.RowKit Go.Maps

/-- behind `on`: the guard is there, or not, for both -/
theorem guarded_sim {s : XR} {σ : RS} (h : Sim s σ) (hm : s.nest = 0) : LPost s (rread (some (rexpr 4 s).1) ((rexpr 4 s).2.must [38])) (guardedF (exprF 4 σ).1 (exprF 4 σ).2) := by
  have hx := expr_sim s σ h hm
  have h1 := hx.sim.must [38] (by decide) (by decide)
  obtain ⟨h2, h3, h4⟩ := source_sim h1
  obtain ⟨h5, h6, h7⟩ := read_sim (ch := (sourceF ((exprF 4 σ).2.need [38])).1) h2 14
  refine ⟨h5, ?_, fun h0 => ?_⟩
  · obtain ⟨ys, hys⟩ := hx.more
    refine ⟨ys, ?_⟩
    show (XR.name _).2.xs = _
    rw [h6, h3, XR.must_xs, hys]
  · obtain ⟨h8, h9, h9'⟩ := h7 h0
    obtain ⟨h10, h11, h11'⟩ := h4 h8
    refine ⟨rfl, h9.symm, h11.symm, fun hn => (by cases hn), fun k hk => ?_, ⟨h9 ▸ h9', by show (sourceF ((exprF 4 σ).2.need [38])).1 ≠ []; rw [← h11]; exact h11'⟩⟩
    injection hk with hk
    subst hk
    show RepX (XR.name _).2.xs _ _
    rw [h6, h3, XR.must_xs]
    exact hx.rep (XR.must_e0 h10)
theorem plain_sim {s : XR} {σ : RS} (h : Sim s σ) : LPost s (rread none s) (readF 14 (sourceF σ).1 (sourceF σ).2) := by
  obtain ⟨h2, h3, h4⟩ := source_sim h
  obtain ⟨h5, h6, h7⟩ := read_sim (ch := (sourceF σ).1) h2 14
  refine ⟨h5, ⟨[], by show (XR.name _).2.xs = _; rw [h6, h3]; simp⟩, fun h0 => ?_⟩
  obtain ⟨h8, h9, h9'⟩ := h7 h0
  obtain ⟨_, h11, h11'⟩ := h4 h8
  exact ⟨rfl, h9.symm, h11.symm, fun _ => rfl, fun k hk => (by cases hk), ⟨h9 ▸ h9', by show (sourceF σ).1 ≠ []; rw [← h11]; exact h11'⟩⟩

theorem fail_need (σ : RS) (t : Bs) (h : σ.text ≠ t) (he : σ.errno = 0) : (σ.need t).errno = 2 := by
  unfold RS.need RS.fail
  rw [if_neg h]
  simp [he]
theorem readF_err (k : Int) (ch : Bs) (σ : RS) (h : σ.errno ≠ 0) : (readF k ch σ).2.errno = σ.errno := by
  show (RS.name _).2.errno = _
  have h1 := RS.need_err σ [63] h
  rw [RS.name_err _ (by rw [h1]; exact h), h1]
theorem sourceF_err (σ : RS) (h : σ.errno ≠ 0) : (sourceF σ).2.errno = σ.errno := by
  unfold sourceF
  split
  · rfl
  · exact σ.name_err h
theorem guardedF_err (g : PE) (σ : RS) (h : σ.errno ≠ 0) : (guardedF g σ).2.errno = σ.errno := by
  have h1 := RS.need_err σ [38] h
  have h2 := sourceF_err (σ.need [38]) (by rw [h1]; exact h)
  show (readF 14 (sourceF (σ.need [38])).1 (sourceF (σ.need [38])).2).2.errno = _
  rw [readF_err _ _ _ (by rw [h2, h1]; exact h), h2, h1]

/-- the second token -/
theorem second_of {s : XR} {σ : RS} (h : Sim s σ) (he : s.e = 0) (ha : s.at_ = 1) (hk : σ.kind ≠ 0 ∧ σ.kind ≠ 1) : s.toks.getD 2 [] = [63] ↔ σ.next.text = [63] := by
  have h1 := h.next he hk.1 hk.2
  have := h1.now_eq he [63] (by decide) (by decide)
  have e : s.step.now = s.toks.getD 2 [] := by unfold XR.now XR.step; rw [ha]
  rw [← e]
  exact this

theorem leaf_of_name {σ : RS} (h : σ.atName = true) (hk : TokOk σ.kind σ.text) : operandF 4 σ = (.var σ.name.1 0, σ.name.2) := by
  have h2 : σ.kind = 2 := by unfold RS.atName at h; simp at h; exact h.1
  have ht : σ.text ≠ [40] := by
    rw [h2] at hk
    intro e
    rw [e] at hk
    cases hk with
    | word _ c u h hl =>
      have := hl 40 (by simp)
      exact absurd this (by decide)
  unfold operandF
  rw [if_neg ht]
  unfold leafF
  rw [if_neg (by rw [h2]; decide)]

/-- not a name, not `in`, and `?` behind it: no guard begins so -/
theorem noguard {σ : RS} (he : σ.errno = 0) (hn : σ.atName = false) (hq : σ.next.text = [63]) : (guardedF (exprF 4 σ).1 (exprF 4 σ).2).2.errno = 2 := by
  have lf : ∀ τ : RS, τ.errno = 0 → τ.atName = false → τ.kind ≠ 3 → (leafF τ).2.errno = 2 := by
    intro τ h1 h2 h3
    unfold leafF
    rw [if_neg h3]
    unfold RS.name
    rw [h2]
    unfold RS.fail
    simp [h1]
  have up : (operandF 4 σ).2.errno = 2 → (guardedF (exprF 4 σ).1 (exprF 4 σ).2).2.errno = 2 := by
    intro h
    have h1 : (exprF 4 σ).2.errno = 2 := (fromF_err (operandF_err 4) _ (by rw [h]; decide)).trans h
    exact (guardedF_err _ _ (by rw [h1]; decide)).trans h1
  by_cases ht : σ.text = [40]
  · apply up
    have e1 : operandF 4 σ = innerF (operandF 3) σ := by unfold operandF; rw [if_pos ht]
    have e2 : (({ σ with opn := σ.opn + 1 } : RS).need [40]) = { σ.next with opn := σ.opn + 1 } := by unfold RS.need; rw [if_pos ht]; rfl
    have hq2 : ({ σ.next with opn := σ.opn + 1 } : RS).text = [63] := hq
    have hnk : ({ σ.next with opn := σ.opn + 1 } : RS).kind = 4 := by
      have := next_tok σ
      rw [hq] at this
      show σ.next.kind = 4
      generalize σ.next.kind = k at this
      cases this with
      | word _ c u h hl => exact absurd (hl 63 (by simp)) (by decide)
      | num _ c u h hd => injection h with h _; subst h; exact absurd hd (by decide)
      | sign c h => rfl
    have e3 : (operandF 3 ({ σ.next with opn := σ.opn + 1 } : RS)).2.errno = 2 := by
      have e4 : operandF 3 ({ σ.next with opn := σ.opn + 1 } : RS) = leafF { σ.next with opn := σ.opn + 1 } := by unfold operandF; rw [if_neg (by rw [hq2]; decide)]
      rw [e4]
      exact lf _ he (by unfold RS.atName; rw [hnk]; rfl) (by rw [hnk]; decide)
    rw [e1]
    show (RS.need _ [41]).errno = 2
    rw [e2]
    have e5 := fromF_err (operandF_err 3) (operandF 3 ({ σ.next with opn := σ.opn + 1 } : RS)) (by rw [e3]; decide)
    rw [RS.need_err _ _ (by rw [e5, e3]; decide), e5, e3]
  · by_cases h3 : σ.kind = 3
    · have e1 : operandF 4 σ = (.num ((Lib.atoi σ.text).getD 0), σ.next) := by
        unfold operandF; rw [if_neg ht]; unfold leafF; rw [if_pos h3]
      have e2 : σ.next.atOp = false := by
        unfold RS.atOp
        rw [hq]
        have : Lib.contains opersB [63] = false := by decide
        rw [this, Bool.and_false]
      have e3 : exprF 4 σ = (.num ((Lib.atoi σ.text).getD 0), σ.next) := by
        unfold exprF fromF
        rw [e1]
        simp only [e2]
        rfl
      rw [e3]
      have h4 : (σ.next.need [38]).errno = 2 := fail_need _ _ (by rw [hq]; decide) he
      have h5 := sourceF_err (σ.next.need [38]) (by rw [h4]; decide)
      show (readF 14 (sourceF (σ.next.need [38])).1 (sourceF (σ.next.need [38])).2).2.errno = 2
      rw [readF_err _ _ _ (by rw [h5, h4]; decide), h5, h4]
    · apply up
      have e1 : operandF 4 σ = leafF σ := by unfold operandF; rw [if_neg ht]
      rw [e1]
      exact lf σ he hn h3

theorem LPost.err {s0 : XR} {r : RN × XR} {q : LP × RS} (h : r.2.e = q.2.errno) (hne : r.2.e ≠ 0) (hm : ∃ ys, r.2.xs = s0.xs ++ ys) : LPost s0 r q := ⟨⟨h, fun h0 => absurd h0 hne⟩, hm, fun h0 => absurd h0 hne⟩
/-- behind `on`, by both -/
theorem over_sim {s : XR} {σ : RS} (h : Sim s σ) (he : s.e = 0) (hm : s.nest = 0) (ha : s.at_ = 1) : LPost s (rover s) (branchF σ) := by
  obtain ⟨hd, hk, _⟩ := h.rest he
  have hσ : σ.errno = 0 := by rw [← h.e]; exact he
  have hg := guarded_sim h hm
  have hp := plain_sim h
  by_cases hin : σ.text = wIn
  · have hkk := tok_kind hk (by rw [hin]; decide)
    have hs := second_of h he ha hkk
    have e0 : branchF σ = readF 14 wIn σ.next := by unfold branchF; rw [if_pos hin]
    have e1 : sourceF σ = (wIn, σ.next) := by unfold sourceF; rw [if_pos hin]
    rw [e0]
    unfold rover
    by_cases hq : σ.next.text = [63]
    · rw [if_pos (hs.2 hq)]
      rw [e1] at hp
      exact hp
    · rw [if_neg (fun x => hq (hs.1 x))]
      have e2 : (operandF 4 σ).2.errno = 2 := by
        have e4 : operandF 4 σ = leafF σ := by unfold operandF; rw [if_neg (by rw [hin]; decide)]
        rw [e4]
        unfold leafF
        have h3 : σ.kind ≠ 3 := by
          intro h3
          rw [hin, h3] at hk
          cases hk with
          | num _ c u h hd => injection h with h _; subst h; exact absurd hd (by decide)
        rw [if_neg h3]
        have ha : σ.atName = false := by unfold RS.atName; rw [hin]; simp [reservedB, wordsB]
        unfold RS.name
        rw [ha]
        unfold RS.fail
        simp [hσ]
      have e3 : (exprF 4 σ).2.errno = 2 := (fromF_err (operandF_err 4) _ (by rw [e2]; decide)).trans e2
      have e4 := guardedF_err (exprF 4 σ).1 (exprF 4 σ).2 (by rw [e3]; decide)
      have e5 : (readF 14 wIn σ.next).2.errno = 2 := by
        have h7 : (σ.next.need [63]).errno = 2 := fail_need _ _ hq hσ
        show (RS.name _).2.errno = 2
        rw [RS.name_err _ (by rw [h7]; decide), h7]
      have e6 := hg.sim.e
      rw [e4, e3] at e6
      exact .err (by rw [e6, e5]) (by rw [e6]; decide) hg.more
  · cases hn : σ.atName with
    | false =>
      have e0 : branchF σ = guardedF (exprF 4 σ).1 (exprF 4 σ).2 := by unfold branchF; rw [if_neg hin, if_pos hn]
      rw [e0]
      unfold rover
      by_cases hkk : σ.kind ≠ 0 ∧ σ.kind ≠ 1
      · have hs := second_of h he ha hkk
        by_cases hq : σ.next.text = [63]
        · rw [if_pos (hs.2 hq)]
          have e1 := noguard hσ hn hq
          have e2 : sourceF σ = σ.name := by unfold sourceF; rw [if_neg hin]
          have e3 : σ.name.2.errno = 2 := by unfold RS.name; rw [hn]; unfold RS.fail; simp [hσ]
          have e4 := hp.sim.e
          rw [e2, readF_err _ _ _ (by rw [e3]; decide), e3] at e4
          exact .err (by rw [e4, e1]) (by rw [e4]; decide) hp.more
        · rw [if_neg (fun x => hq (hs.1 x))]
          exact hg
      · have hno : s.toks.getD 2 [] ≠ [63] := by
          have h2 : (toksOf σ).length ≤ 1 := by
            unfold toksOf
            split
            · simp
            · split
              · simp
              · rename_i h1 h2; exact absurd ⟨h1, h2⟩ hkk
          have h3 := congrArg List.length hd
          rw [List.length_drop, ha] at h3
          rw [getD_ge _ _ _ (by omega)]
          decide
        rw [if_neg hno]
        exact hg
    | true =>
      have h2 : σ.kind = 2 := by unfold RS.atName at hn; simp at hn; exact hn.1
      have hs := second_of h he ha (by rw [h2]; decide)
      have e2 : σ.name = (σ.text, σ.next) := by unfold RS.name; rw [hn]; rfl
      have e3 : sourceF σ = σ.name := by unfold sourceF; rw [if_neg hin]
      unfold rover
      by_cases hq : σ.next.text = [63]
      · rw [if_pos (hs.2 hq)]
        have e0 : branchF σ = readF 14 σ.name.1 σ.name.2 := by
          unfold branchF; rw [if_neg hin, if_neg (by rw [hn]; simp), if_pos (by rw [e2]; exact hq)]
        rw [e0]
        rw [e3] at hp
        exact hp
      · rw [if_neg (fun x => hq (hs.1 x))]
        have e0 : branchF σ = guardedF (exprF 4 σ).1 (exprF 4 σ).2 := by
          unfold branchF; rw [if_neg hin, if_neg (by rw [hn]; simp), if_neg (by rw [e2]; exact hq)]
          unfold exprF
          rw [leaf_of_name hn hk]
        rw [e0]
        exact hg
end Go.Proofs.YtnhidaamfnjdjaaGreatDoor
/- A LINE, read by both: its first word. -/
namespace Go.Proofs.YtnhidaamfnjdjaaGreatDoor
open Go.RowKit Go.Maps

/-- may this word begin a line there? -/
def fitsW (above : Int) (t : Bs) : Prop := if above = 11 then t = wWhen else if above = 13 then t = wOn else t ≠ wWhen ∧ t ≠ wOn

theorem writeF_err (ch : Bs) (σ : RS) (h : σ.errno ≠ 0) : (writeF ch σ).2.errno = σ.errno := by
  have h1 := RS.need_err σ [33] h
  show (exprF 4 (σ.need [33])).2.errno = _
  rw [exprF_err 4 _ (by rw [h1]; exact h), h1]
theorem onNameF_err (nm : Bs) (σ : RS) (h : σ.errno ≠ 0) : (onNameF nm σ).2.errno = σ.errno := by
  unfold onNameF
  split
  · exact exprF_err 4 σ.next h
  · split
    · exact writeF_err nm σ h
    · exact readF_err 5 nm σ h
theorem branchF_err (σ : RS) (h : σ.errno ≠ 0) : (branchF σ).2.errno = σ.errno := by
  unfold branchF
  split
  · exact readF_err 14 wIn σ.next h
  · split
    · have := exprF_err 4 σ h
      rw [guardedF_err _ _ (by rw [this]; exact h), this]
    · have h1 := σ.name_err h
      split
      · rw [readF_err _ _ _ (by rw [h1]; exact h), h1]
      · have h2 := fromF_err (operandF_err 4) (.var σ.name.1 0, σ.name.2) (by rw [h1]; exact h)
        rw [guardedF_err _ _ (by rw [h2, h1]; exact h), h2, h1]

/-- a word with which no name begins -/
theorem onName_bad {σ : RS} (he : σ.errno = 0) (hn : σ.atName = false) : (onNameF σ.name.1 σ.name.2).2.errno = 2 := by
  have e3 : σ.name.2.errno = 2 := by unfold RS.name; rw [hn]; unfold RS.fail; simp [he]
  rw [onNameF_err _ _ (by rw [e3]; decide), e3]
theorem processF_name {σ : RS} (h : σ.text ∉ [wSkip, wStop, wSeq, wPar, wPri, wIf, wAlt, wWait, wWhile, wVar, wChan, wIn, wOut]) : processF σ = onNameF σ.name.1 σ.name.2 := by
  simp only [List.mem_cons, List.not_mem_nil, or_false, not_or] at h
  obtain ⟨h1, h2, h3, h4, h5, h6, h7, h8, h9, h10, h11, h12, h13⟩ := h
  unfold processF
  rw [if_neg h1, if_neg h2, if_neg h3, if_neg h4, if_neg h5, if_neg h6, if_neg h7, if_neg h8, if_neg h9, if_neg h10, if_neg h11, if_neg h12, if_neg h13]

/-- where the word may not stand there is an error -/
theorem nofit {s : XR} {σ : RS} (h : Sim s σ) (he : s.e = 0) (above : Int) (hf : ¬ fitsW above s.now) : (lineF above σ).2.errno = 2 := by
  have hσ : σ.errno = 0 := by rw [← h.e]; exact he
  have hw := h.now_eq he wWhen (by decide) (by decide)
  have ho := h.now_eq he wOn (by decide) (by decide)
  unfold fitsW at hf
  unfold lineF
  split
  · rename_i h1
    rw [if_pos h1] at hf
    have h2 : (σ.need wWhen).errno = 2 := fail_need _ _ (fun x => hf (hw.2 x)) hσ
    show (exprF 4 (σ.need wWhen)).2.errno = 2
    rw [exprF_err 4 _ (by rw [h2]; decide), h2]
  · rename_i h1
    rw [if_neg h1] at hf
    split
    · rename_i h3
      rw [if_pos h3] at hf
      have h2 : (σ.need wOn).errno = 2 := fail_need _ _ (fun x => hf (ho.2 x)) hσ
      rw [branchF_err _ (by rw [h2]; decide), h2]
    · rename_i h3
      rw [if_neg h3] at hf
      have ht : σ.text = wWhen ∨ σ.text = wOn := by
        by_cases a : σ.text = wWhen
        · exact .inl a
        · by_cases b : σ.text = wOn
          · exact .inr b
          · exact absurd ⟨fun x => a (hw.1 x), fun x => b (ho.1 x)⟩ hf
      have hn : σ.atName = false := by
        unfold RS.atName
        rcases ht with ht | ht <;> rw [ht] <;> simp [reservedB, wordsB]
      rw [processF_name (by rcases ht with ht | ht <;> rw [ht] <;> decide)]
      exact onName_bad hσ hn

/-- behind a first word that is a name, or `in`, or `out` -/
theorem word_bad {s0 s : XR} {q : LP × RS} (hs : s.e = 0) (hx : s.xs = s0.xs) (n : RN) (hq : q.2.errno = 2) : LPost s0 (n, s.wrong 2) q :=
  .err (by show (s.wrong 2).e = _; rw [XR.wrong_e, if_pos hs, hq]) (by show (s.wrong 2).e ≠ 0; rw [XR.wrong_e, if_pos hs]; decide) ⟨[], by show (s.wrong 2).xs = _; rw [XR.wrong_xs, hx]; simp⟩

theorem ask_sim {s0 s : XR} {σ : RS} (h : Sim s σ) (hm : s.nest = 0) (hx : s.xs = s0.xs) (t nm ch : Bs) (k : Int) (hk : k = kindOf t) (hw : WfL k nm ch) : LPost s0 (⟨t, nm, ch, some (rexpr 4 s).1⟩, (rexpr 4 s).2) (⟨k, nm, ch, (exprF 4 σ).1⟩, (exprF 4 σ).2) := by
  have hp := expr_sim s σ h hm
  refine ⟨hp.sim, ?_, fun h0 => ⟨hk, rfl, rfl, fun hn => (by cases hn), fun j hj => ?_, hw⟩⟩
  · obtain ⟨ys, hys⟩ := hp.more
    exact ⟨ys, by rw [← hx]; exact hys⟩
  · injection hj with hj
    subst hj
    exact hp.rep h0

def rdef (s : XR) : RN × XR :=
  if s.step.now = [58, 61] ∧ rnameB s.now = true then (⟨s.step.now, s.now, [], some (rexpr 4 s.step.step).1⟩, (rexpr 4 s.step.step).2)
  else if s.step.now = [33] ∧ (rnameB s.now = true ∨ s.now = wOut) then (⟨s.step.now, [], s.now, some (rexpr 4 s.step.step).1⟩, (rexpr 4 s.step.step).2)
  else if s.step.now = [63] ∧ (rnameB s.now = true ∨ s.now = wIn) then (⟨s.step.now, s.step.step.name.1, s.now, none⟩, s.step.step.name.2)
  else (⟨s.step.now, [], [], none⟩, s.step.step.wrong 2)
theorem rswitch_def (s : XR) (h : s.now ∉ bareW ++ askW ++ [wVar, wChan, wOn]) : rswitch s = rdef s := by
  simp only [List.mem_append, not_or] at h
  obtain ⟨⟨h1, h2⟩, h3⟩ := h
  simp only [List.mem_cons, List.not_mem_nil, or_false, not_or] at h3
  unfold rswitch
  dsimp only
  rw [if_neg h1, if_neg h2, if_neg (by rintro (x | x); exact h3.1 x; exact h3.2.1 x), if_neg h3.2.2]
  rfl
theorem bare_sim {s : XR} {σ : RS} {W : Bs} (hs : Sim s.step σ.next) (hn : s.now = W) (hb : W ∈ bareW) (k : Int) (hk : k = kindOf W) (hwf : WfL k [] []) (hp : processF σ = bareF k σ) : LPost s (rswitch s) (processF σ) := by
  have e2 : rswitch s = (⟨W, [], [], none⟩, s.step) := by unfold rswitch; dsimp only; rw [hn, if_pos hb]
  rw [e2, hp]
  exact ⟨hs, ⟨[], by simp [XR.step]⟩, fun _ => ⟨hk, rfl, rfl, fun _ => rfl, fun j hj => (by cases hj), hwf⟩⟩
/-- a reading, of a first word that may be read from -/
theorem rdef_read {s : XR} {τ : RS} {W : Bs} (hs : Sim s.step τ) (he : s.e = 0) (_hm : s.nest = 0) (hn : s.now = W) (hWne : W ≠ []) (hr : rnameB W = true ∨ W = wIn) (h1 : ¬ (s.step.now = [58, 61] ∧ rnameB W = true)) (h2 : ¬ (s.step.now = [33] ∧ (rnameB W = true ∨ W = wOut))) (hτ : τ.errno = 0) :
    LPost s (rdef s) (readF 5 W τ) := by
  have hq := hs.now_eq he [63] (by decide) (by decide)
  unfold rdef
  rw [hn, if_neg h1, if_neg h2]
  by_cases ht : τ.text = [63]
  · have hn2 := hq.2 ht
    rw [if_pos ⟨hn2, hr⟩, hn2]
    obtain ⟨h5, h6, h7⟩ := read_sim (ch := W) hs 5
    have e : s.step.must [63] = s.step.step := by unfold XR.must; rw [if_pos hn2]
    rw [e] at h5 h6 h7
    exact ⟨h5, ⟨[], by show s.step.step.name.2.xs = _; rw [h6]; simp [XR.step]⟩, fun h0 => ⟨(by show (5 : Int) = kindOf [63]; decide), (h7 h0).2.1.symm, rfl, fun _ => rfl, fun j hj => (by cases hj), ⟨(h7 h0).2.1 ▸ (h7 h0).2.2, hWne⟩⟩⟩
  · rw [if_neg (fun x => ht (hq.1 x.1))]
    have h7 : (τ.need [63]).errno = 2 := fail_need _ _ ht hτ
    have h8 : (readF 5 W τ).2.errno = 2 := by show (RS.name _).2.errno = 2; rw [RS.name_err _ (by rw [h7]; decide), h7]
    exact word_bad (s0 := s) (s := s.step.step) he rfl _ h8
/-- a writing, of a first word that may be written to -/
theorem rdef_write {s : XR} {τ : RS} {W : Bs} (hs : Sim s.step τ) (he : s.e = 0) (hm : s.nest = 0) (hn : s.now = W) (hWne : W ≠ []) (hr : rnameB W = true ∨ W = wOut) (h1 : ¬ (s.step.now = [58, 61] ∧ rnameB W = true)) (h2 : ¬ s.step.now = [33] → ¬ (s.step.now = [63] ∧ (rnameB W = true ∨ W = wIn))) (hτ : τ.errno = 0) :
    LPost s (rdef s) (writeF W τ) := by
  have hq := hs.now_eq he [33] (by decide) (by decide)
  unfold rdef
  rw [hn, if_neg h1]
  by_cases ht : τ.text = [33]
  · have hn2 := hq.2 ht
    rw [if_pos ⟨hn2, hr⟩, hn2]
    have hkk := tok_kind (hs.rest he).2.1 (by rw [ht]; decide)
    have e4 : writeF W τ = (⟨4, [], W, (exprF 4 τ.next).1⟩, (exprF 4 τ.next).2) := by unfold writeF RS.need; rw [if_pos ht]
    rw [e4]
    exact ask_sim (s0 := s) (hs.next he hkk.1 hkk.2) hm rfl [33] [] W 4 (by decide) ⟨rfl, hWne⟩
  · have hn2 : ¬ s.step.now = [33] := fun x => ht (hq.1 x)
    rw [if_neg (fun x => hn2 x.1), if_neg (h2 hn2)]
    have h7 : (τ.need [33]).errno = 2 := fail_need _ _ ht hτ
    have h8 : (writeF W τ).2.errno = 2 := by show (exprF 4 (τ.need [33])).2.errno = 2; rw [exprF_err 4 _ (by rw [h7]; decide), h7]
    exact word_bad (s0 := s) (s := s.step.step) he rfl _ h8

theorem switch_sim {s : XR} {σ : RS} (h : Sim s σ) (he : s.e = 0) (hm : s.nest = 0) (ha : s.at_ = 0) (above : Int) (hf : fitsW above s.now) : LPost s (rswitch s) (lineF above σ) := by
  obtain ⟨hd, hk, _⟩ := h.rest he
  have hσ : σ.errno = 0 := by rw [← h.e]; exact he
  have eq : ∀ t : Bs, t ≠ [] → t ≠ [120, 33] → (s.now = t ↔ σ.text = t) := fun t h1 h2 => h.now_eq he t h1 h2
  have nx : ∀ t : Bs, t ≠ [] → σ.text = t → Sim s.step σ.next := fun t h1 h2 => by
    have := tok_kind hk (by rw [h2]; exact h1)
    exact h.next he this.1 this.2
  unfold fitsW at hf
  by_cases h11 : above = 11
  · rw [if_pos h11] at hf
    have ht := (eq wWhen (by decide) (by decide)).1 hf
    have e1 : lineF above σ = (⟨12, [], [], (exprF 4 σ.next).1⟩, (exprF 4 σ.next).2) := by
      unfold lineF; rw [if_pos h11]; unfold RS.need; rw [if_pos ht]
    have e2 : rswitch s = (⟨wWhen, [], [], some (rexpr 4 s.step).1⟩, (rexpr 4 s.step).2) := by
      unfold rswitch; rw [hf]; rfl
    rw [e1, e2]
    exact ask_sim (s0 := s) (nx wWhen (by decide) ht) hm rfl wWhen [] [] 12 (by decide) ⟨rfl, rfl⟩
  · rw [if_neg h11] at hf
    by_cases h13 : above = 13
    · rw [if_pos h13] at hf
      have ht := (eq wOn (by decide) (by decide)).1 hf
      have e1 : lineF above σ = branchF σ.next := by unfold lineF; rw [if_neg h11, if_pos h13]; unfold RS.need; rw [if_pos ht]
      have e2 : rswitch s = rover s.step := by unfold rswitch; rw [hf]; rfl
      rw [e1, e2]
      have := over_sim (nx wOn (by decide) ht) he hm (by show s.at_ + 1 = 1; rw [ha])
      exact ⟨this.sim, this.more, this.rep⟩
    · rw [if_neg h13] at hf
      have e1 : lineF above σ = processF σ := by unfold lineF; rw [if_neg h11, if_neg h13]
      rw [e1]
      by_cases hw : σ.text ∈ [wSkip, wStop, wSeq, wPar, wPri, wIf, wAlt, wWait, wWhile, wVar, wChan, wIn, wOut]
      · simp only [List.mem_cons, List.not_mem_nil, or_false] at hw
        rcases hw with ht | ht | ht | ht | ht | ht | ht | ht | ht | ht | ht | ht | ht
        · exact bare_sim (nx wSkip (by decide) ht) ((eq wSkip (by decide) (by decide)).2 ht) (by decide) 1 (by decide) ⟨rfl, rfl⟩ (by unfold processF; rw [ht]; rfl)
        · exact bare_sim (nx wStop (by decide) ht) ((eq wStop (by decide) (by decide)).2 ht) (by decide) 2 (by decide) ⟨rfl, rfl⟩ (by unfold processF; rw [ht]; rfl)
        · exact bare_sim (nx wSeq (by decide) ht) ((eq wSeq (by decide) (by decide)).2 ht) (by decide) 7 (by decide) ⟨rfl, rfl⟩ (by unfold processF; rw [ht]; rfl)
        · exact bare_sim (nx wPar (by decide) ht) ((eq wPar (by decide) (by decide)).2 ht) (by decide) 8 (by decide) ⟨rfl, rfl⟩ (by unfold processF; rw [ht]; rfl)
        · exact bare_sim (nx wPri (by decide) ht) ((eq wPri (by decide) (by decide)).2 ht) (by decide) 9 (by decide) ⟨rfl, rfl⟩ (by unfold processF; rw [ht]; rfl)
        · exact bare_sim (nx wIf (by decide) ht) ((eq wIf (by decide) (by decide)).2 ht) (by decide) 11 (by decide) ⟨rfl, rfl⟩ (by unfold processF; rw [ht]; rfl)
        · exact bare_sim (nx wAlt (by decide) ht) ((eq wAlt (by decide) (by decide)).2 ht) (by decide) 13 (by decide) ⟨rfl, rfl⟩ (by unfold processF; rw [ht]; rfl)
        · have hn := (eq wWait (by decide) (by decide)).2 ht
          have e2 : rswitch s = (⟨wWait, [], [], some (rexpr 4 s.step).1⟩, (rexpr 4 s.step).2) := by unfold rswitch; rw [hn]; rfl
          have e3 : processF σ = (⟨6, [], [], (exprF 4 σ.next).1⟩, (exprF 4 σ.next).2) := by unfold processF; rw [ht]; rfl
          rw [e2, e3]
          exact ask_sim (s0 := s) (nx wWait (by decide) ht) hm rfl wWait [] [] 6 (by decide) ⟨rfl, rfl⟩
        · have hn := (eq wWhile (by decide) (by decide)).2 ht
          have e2 : rswitch s = (⟨wWhile, [], [], some (rexpr 4 s.step).1⟩, (rexpr 4 s.step).2) := by unfold rswitch; rw [hn]; rfl
          have e3 : processF σ = (⟨10, [], [], (exprF 4 σ.next).1⟩, (exprF 4 σ.next).2) := by unfold processF; rw [ht]; rfl
          rw [e2, e3]
          exact ask_sim (s0 := s) (nx wWhile (by decide) ht) hm rfl wWhile [] [] 10 (by decide) ⟨rfl, rfl⟩
        · have hn := (eq wVar (by decide) (by decide)).2 ht
          have e2 : rswitch s = (⟨wVar, s.step.name.1, [], none⟩, s.step.name.2) := by unfold rswitch; rw [hn]; rfl
          have e3 : processF σ = (⟨15, σ.next.name.1, [], .nil⟩, σ.next.name.2) := by unfold processF; rw [ht]; rfl
          rw [e2, e3]
          obtain ⟨h1, h2, h3⟩ := (nx wVar (by decide) ht).name
          exact ⟨h1, ⟨[], by show s.step.name.2.xs = _; rw [h2]; simp [XR.step]⟩, fun h0 => ⟨(by show (15 : Int) = kindOf wVar; decide), (h3 h0).1.symm, rfl, fun _ => rfl, fun j hj => (by cases hj), ⟨(h3 h0).1 ▸ (h3 h0).2, rfl⟩⟩⟩
        · have hn := (eq wChan (by decide) (by decide)).2 ht
          have e2 : rswitch s = (⟨wChan, s.step.name.1, [], none⟩, s.step.name.2) := by unfold rswitch; rw [hn]; rfl
          have e3 : processF σ = (⟨16, σ.next.name.1, [], .nil⟩, σ.next.name.2) := by unfold processF; rw [ht]; rfl
          rw [e2, e3]
          obtain ⟨h1, h2, h3⟩ := (nx wChan (by decide) ht).name
          exact ⟨h1, ⟨[], by show s.step.name.2.xs = _; rw [h2]; simp [XR.step]⟩, fun h0 => ⟨(by show (16 : Int) = kindOf wChan; decide), (h3 h0).1.symm, rfl, fun _ => rfl, fun j hj => (by cases hj), ⟨(h3 h0).1 ▸ (h3 h0).2, rfl⟩⟩⟩
        · have hn := (eq wIn (by decide) (by decide)).2 ht
          have e3 : processF σ = readF 5 wIn σ.next := by unfold processF; rw [ht]; rfl
          have e2 : rswitch s = rdef s := rswitch_def s (by rw [hn]; decide)
          rw [e2, e3]
          exact rdef_read (nx wIn (by decide) ht) he hm hn (by decide) (.inr rfl) (by rintro ⟨_, h⟩; exact absurd h (by decide)) (by rintro ⟨_, h | h⟩ <;> exact absurd h (by decide)) hσ
        · have hn := (eq wOut (by decide) (by decide)).2 ht
          have e3 : processF σ = writeF wOut σ.next := by unfold processF; rw [ht]; rfl
          have e2 : rswitch s = rdef s := rswitch_def s (by rw [hn]; decide)
          rw [e2, e3]
          exact rdef_write (nx wOut (by decide) ht) he hm hn (by decide) (.inr rfl) (by rintro ⟨_, h⟩; exact absurd h (by decide)) (fun _ => by rintro ⟨_, h | h⟩ <;> exact absurd h (by decide)) hσ
      · rw [processF_name hw]
        have hno : s.now ∉ bareW ++ askW ++ [wVar, wChan, wOn] := by
          simp only [List.mem_cons, List.not_mem_nil, or_false, not_or] at hw
          obtain ⟨a1, a2, a3, a4, a5, a6, a7, a8, a9, a10, a11, a12, a13⟩ := hw
          simp only [bareW, askW, List.mem_append, List.mem_cons, List.not_mem_nil, or_false, not_or]
          exact ⟨⟨⟨fun x => a1 ((eq wSkip (by decide) (by decide)).1 x), fun x => a2 ((eq wStop (by decide) (by decide)).1 x), fun x => a3 ((eq wSeq (by decide) (by decide)).1 x), fun x => a4 ((eq wPar (by decide) (by decide)).1 x), fun x => a5 ((eq wPri (by decide) (by decide)).1 x), fun x => a6 ((eq wIf (by decide) (by decide)).1 x), fun x => a7 ((eq wAlt (by decide) (by decide)).1 x)⟩,
            fun x => a8 ((eq wWait (by decide) (by decide)).1 x), fun x => a9 ((eq wWhile (by decide) (by decide)).1 x), hf.1⟩, fun x => a10 ((eq wVar (by decide) (by decide)).1 x), fun x => a11 ((eq wChan (by decide) (by decide)).1 x), hf.2⟩
        rw [rswitch_def s hno]
        have hin : s.now ≠ wIn := fun x => hw (by rw [(eq wIn (by decide) (by decide)).1 x]; decide)
        have hout : s.now ≠ wOut := fun x => hw (by rw [(eq wOut (by decide) (by decide)).1 x]; decide)
        have hne := h.name_eq he
        cases hn : σ.atName with
        | false =>
          rw [hn] at hne
          have e2 : rdef s = (⟨s.step.now, [], [], none⟩, s.step.step.wrong 2) := by
            unfold rdef
            rw [if_neg (by rintro ⟨_, x⟩; rw [hne] at x; cases x), if_neg (by rintro ⟨_, x | x⟩; rw [hne] at x; cases x; exact hout x), if_neg (by rintro ⟨_, x | x⟩; rw [hne] at x; cases x; exact hin x)]
          rw [e2]
          exact word_bad (s0 := s) (s := s.step.step) he rfl _ (onName_bad hσ hn)
        | true =>
          rw [hn] at hne
          have h2 : σ.kind = 2 := by unfold RS.atName at hn; simp at hn; exact hn.1
          have e2 : σ.name = (σ.text, σ.next) := by unfold RS.name; rw [hn]; rfl
          have hs := h.next he (by rw [h2]; decide) (by rw [h2]; decide)
          have hnow : s.now = σ.text := by rw [drop_head hd, head_toks hk, if_neg (by rw [h2]; decide)]
          have htne : σ.text ≠ [] := by
            intro e
            have h9 := hk
            rw [h2, e] at h9
            cases h9 with
            | word _ c u h hl => cases h
          rw [e2]
          have eq2 : ∀ t : Bs, t ≠ [] → t ≠ [120, 33] → (s.step.now = t ↔ σ.next.text = t) := fun t h1 h2 => hs.now_eq he t h1 h2
          show LPost s (rdef s) (onNameF σ.text σ.next)
          by_cases hg : σ.next.text = [58, 61]
          · have hg2 := (eq2 [58, 61] (by decide) (by decide)).2 hg
            have e3 : rdef s = (⟨s.step.now, s.now, [], some (rexpr 4 s.step.step).1⟩, (rexpr 4 s.step.step).2) := by unfold rdef; rw [if_pos ⟨hg2, hne⟩]
            have e4 : onNameF σ.text σ.next = (⟨3, σ.text, [], (exprF 4 σ.next.next).1⟩, (exprF 4 σ.next.next).2) := by unfold onNameF; rw [if_pos hg]
            rw [e3, e4, hg2, hnow]
            have hkk := tok_kind (hs.rest he).2.1 (by rw [hg]; decide)
            exact ask_sim (s0 := s) (hs.next he hkk.1 hkk.2) hm rfl [58, 61] σ.text [] 3 (by decide) ⟨htne, rfl⟩
          · have hg2 : ¬ (s.step.now = [58, 61] ∧ rnameB s.now = true) := fun x => hg ((eq2 [58, 61] (by decide) (by decide)).1 x.1)
            by_cases hx : σ.next.text = [33]
            · have e4 : onNameF σ.text σ.next = writeF σ.text σ.next := by unfold onNameF; rw [if_neg hg, if_pos hx]
              rw [e4]
              exact rdef_write hs he hm hnow htne (.inl (hnow ▸ hne)) (hnow ▸ hg2) (fun c => absurd ((eq2 [33] (by decide) (by decide)).2 hx) c) hσ
            · have e4 : onNameF σ.text σ.next = readF 5 σ.text σ.next := by unfold onNameF; rw [if_neg hg, if_neg hx]
              rw [e4]
              exact rdef_read hs he hm hnow htne (.inl (hnow ▸ hne)) (hnow ▸ hg2) (fun x => hx ((eq2 [33] (by decide) (by decide)).1 x.1)) hσ
end Go.Proofs.YtnhidaamfnjdjaaGreatDoor
/- A LINE, read by both: from its bytes to its error and what it says. -/
namespace Go.Proofs.YtnhidaamfnjdjaaGreatDoor
open Go.RowKit Go.Maps

def startX (body : Bs) (xs : List RX) : XR := ⟨toksF body, 0, 0, 0, xs⟩
theorem start_sim (body : Bs) (xs : List RX) : Sim (startX body xs) (startF body) :=
  ⟨rfl, fun _ => ⟨(toksOf_next (⟨0, [], body, 0, 0⟩ : RS)).symm, next_tok _, rfl⟩⟩

theorem endF_err (σ : RS) (h : σ.errno ≠ 0) : endF σ = σ.errno := by
  unfold endF
  split
  · rfl
  · exact RS.fail_err σ 2 h
theorem line_nofit (body : Bs) (xs : List RX) (above : Int) (hf : ¬ fitsW above (startX body xs).now) : (readLineF body above).2 = 2 := by
  have h := nofit (start_sim body xs) rfl above hf
  show endF (lineF above (startF body)).2 = 2
  rw [endF_err _ (by rw [h]; decide), h]
theorem line_both (body : Bs) (xs : List RX) (above : Int) (hf : fitsW above (startX body xs).now) :
    (rend (rswitch (startX body xs)).2).e = (readLineF body above).2 ∧ (∃ ys, (rswitch (startX body xs)).2.xs = xs ++ ys) ∧
    ((readLineF body above).2 = 0 → LRep (rswitch (startX body xs)).2.xs (rswitch (startX body xs)).1 (readLineF body above).1) := by
  have h := switch_sim (start_sim body xs) rfl rfl rfl above hf
  have he := h.sim.fin
  refine ⟨he, h.more, fun h0 => h.rep ?_⟩
  have h1 : (rend (rswitch (startX body xs)).2).e = 0 := he.trans h0
  unfold rend at h1
  split at h1
  · rw [XR.wrong_e] at h1
    split at h1
    · assumption
    · exact h1
  · exact h1
end Go.Proofs.YtnhidaamfnjdjaaGreatDoor
