import Derived.Test.YtnhidaamfnjdjaaGreatDoorRefQ
/- THE PARSERS, one line more, beside one another. Plain. -/
namespace Go.Proofs.YtnhidaamfnjdjaaGreatDoor
open Go.RowKit Go.Maps

structure RNd where
  kind : Bs
  line : Int
  inn : Nat
  name : Bs
  over : Bs
  ex : Option Nat
  kids : List Nat
instance : Inhabited RNd := ⟨⟨[], 0, 0, [], [], none, []⟩⟩
structure RP where
  nodes : List RNd
  pile : List Nat
  xs : List RX

def RP.at (s : RP) (k : Nat) : RNd := s.nodes.getD k default
def RP.full (s : RP) (k : Nat) : Bool := decide (rmostF (s.at k).kind < 0) || decide (((s.at k).kids.length : Int) = rmostF (s.at k).kind)
/-- from the top of the pile on -/
def RP.closedL (s : RP) (d : Nat) : List Nat → List Nat × Bool
  | [] => ([], true)
  | k :: r => if d ≤ (s.at k).inn then (if s.full k then s.closedL d r else (k :: r, false)) else (k :: r, true)
def RP.closed (s : RP) (d : Nat) : List Nat × Bool := ((s.closedL d s.pile.reverse).1.reverse, (s.closedL d s.pile.reverse).2)
def RP.fits (s : RP) (k : Nat) (word : Bs) : Bool :=
  if 0 ≤ rmostF (s.at k).kind ∧ rmostF (s.at k).kind ≤ ((s.at k).kids.length : Int) then false
  else if (s.at k).kind = wIf then decide (word = wWhen)
  else if (s.at k).kind = wAlt then decide (word = wOn)
  else decide (word ≠ wWhen ∧ word ≠ wOn)

def kindsW : List Bs := [wSkip, wStop, [58, 61], [33], [63], wWait, wSeq, wPar, wPri, wWhile, wIf, wWhen, wAlt, wOn, wVar, wChan]
theorem room_kind : ∀ W ∈ kindsW, (rmostF W = -1 ∧ roomL (kindOf W) = 0 ∧ roomM (kindOf W) = 1073741824) ∨ (0 ≤ rmostF W ∧ roomL (kindOf W) = rmostF W ∧ roomM (kindOf W) = rmostF W) := by decide +kernel
theorem kind_if : ∀ W ∈ kindsW, (kindOf W = 11 ↔ W = wIf) ∧ (kindOf W = 13 ↔ W = wAlt) := by decide +kernel

structure NRel (xs : List RX) (n : RNd) (p : PNode) : Prop where
  word : n.kind ∈ kindsW
  kind : p.kind = kindOf n.kind
  line : p.line = n.line
  name : p.name = n.name
  chan : p.chan = n.over
  nd : p.nd = 0 ∧ p.cd = 0
  none : n.ex = none → p.expr = .nil
  some : ∀ k, n.ex = some k → RepX xs k p.expr
  kids : p.kids = n.kids.map (· + 1)
  wf : WfL p.kind p.name p.chan

structure PRel (s : RP) (p : PS) : Prop where
  len : p.nodes.length = s.nodes.length + 1
  node : ∀ i, i < s.nodes.length → NRel s.xs (s.at i) (p.at (i + 1))
  root : (p.at 0).kind = 0 ∧ ((p.at 0).kids = [] ↔ s.nodes = []) ∧ (p.at 0).kids.length ≤ 1
  chain : p.chain = 0 :: s.pile.map (· + 1)
  inn : ∀ j k, s.pile[j]? = some k → (s.at k).inn = j ∧ k < s.nodes.length
  few : ∀ i, i < s.nodes.length → ((s.at i).kids.length : Int) ≤ roomM (kindOf (s.at i).kind)
  most : p.nodes.length ≤ 2000
  ok : p.Ok

theorem PRel.full {s : RP} {p : PS} (h : PRel s p) {i : Nat} (hi : i < s.nodes.length) : s.full i = p.full (i + 1) := by
  have hn := h.node i hi
  have hf := h.few i hi
  unfold RP.full PS.full
  rw [hn.kind, hn.kids, List.length_map]
  rcases room_kind _ hn.word with ⟨h1, h2, _⟩ | ⟨h1, h2, h3⟩
  · rw [h1, h2]
    have : decide ((0 : Int) ≤ ((s.at i).kids.length : Int)) = true := by simp
    rw [this]; rfl
  · rw [h3] at hf
    rw [h2]
    have e1 : decide (rmostF (s.at i).kind < 0) = false := by simpa using h1
    rw [e1, Bool.false_or]
    by_cases hx : ((s.at i).kids.length : Int) = rmostF (s.at i).kind
    · rw [decide_eq_true hx, decide_eq_true (by omega)]
    · rw [decide_eq_false hx, decide_eq_false (by omega)]

/-- what is closed: all from there on, if they are full -/
theorem closedL_is (s : RP) (d : Nat) : ∀ (n : Nat) (q : List Nat), q.length = n → (∀ j k, q[j]? = some k → (s.at k).inn = j) →
    (q.length < d → s.closedL d q.reverse = (q.reverse, true)) ∧ (d ≤ q.length → (q.drop d).all s.full = true → s.closedL d q.reverse = ((q.take d).reverse, true)) ∧ (d ≤ q.length → (q.drop d).all s.full = false → (s.closedL d q.reverse).2 = false)
  | 0, q, hq, _ => by
    have : q = [] := List.length_eq_zero_iff.1 hq
    subst this
    refine ⟨fun _ => rfl, fun _ _ => by simp [RP.closedL], fun _ h => by simp at h⟩
  | n + 1, q, hq, hi => by
    obtain ⟨r, k, rfl⟩ : ∃ r k, q = r ++ [k] := ⟨q.dropLast, q.getLast (by intro e; subst e; simp at hq), (List.dropLast_concat_getLast _).symm⟩
    have hr : r.length = n := by simp at hq; exact hq
    have hk : (s.at k).inn = r.length := hi r.length k (by simp)
    obtain ⟨ia, ib, ic⟩ := closedL_is s d n r hr (fun j x hx => hi j x (by
      have := (List.getElem?_eq_some_iff.1 hx).1
      rw [List.getElem?_append_left this]; exact hx))
    have e : (r ++ [k]).reverse = k :: r.reverse := by simp
    have e1 : s.closedL d (k :: r.reverse) = if d ≤ (s.at k).inn then (if s.full k then s.closedL d r.reverse else (k :: r.reverse, false)) else (k :: r.reverse, true) := rfl
    rw [e, e1, hk, List.length_append, List.length_singleton]
    by_cases hd : d ≤ r.length
    · rw [if_pos hd]
      have e2 : (r ++ [k]).drop d = r.drop d ++ [k] := by rw [List.drop_append_of_le_length hd]
      have e3 : (r ++ [k]).take d = r.take d := by rw [List.take_append_of_le_length hd]
      rw [e2, e3, List.all_append]
      cases hf : s.full k with
      | true =>
        simp only [List.all_cons, List.all_nil, hf, Bool.and_true, if_true]
        exact ⟨fun h => by omega, fun _ h => ib hd h, fun _ h => ic hd h⟩
      | false =>
        simp only [List.all_cons, List.all_nil, hf, Bool.and_true, Bool.and_false, Bool.false_eq_true, if_false]
        exact ⟨fun h => by omega, fun _ h => by simp at h, fun _ _ => trivial⟩
    · rw [if_neg hd]
      refine ⟨fun _ => rfl, fun h1 _ => ?_, fun h1 h => ?_⟩
      · have : d = r.length + 1 := by omega
        subst this
        rw [List.take_of_length_le (by simp), e]
      · have : d = r.length + 1 := by omega
        subst this
        rw [List.drop_eq_nil_of_le (by simp)] at h
        simp at h
theorem closed_is {s : RP} {p : PS} (h : PRel s p) (d : Nat) : (s.pile.length < d → s.closed d = (s.pile, true)) ∧ (d ≤ s.pile.length → (s.closed d).2 = p.complete (d + 1) ∧ (p.complete (d + 1) = true → (s.closed d).1 = s.pile.take d)) := by
  obtain ⟨ia, ib, ic⟩ := closedL_is s d s.pile.length s.pile rfl (fun j k hk => (h.inn j k hk).1)
  have hcomp : p.complete (d + 1) = (s.pile.drop d).all s.full := by
    unfold PS.complete
    rw [h.chain, List.drop_succ_cons, ← List.map_drop, List.all_map]
    have key : ∀ l : List Nat, (∀ k ∈ l, k < s.nodes.length) → l.all (p.full ∘ fun x => x + 1) = l.all s.full := by
      intro l hl
      induction l with
      | nil => rfl
      | cons k l ih =>
        simp only [List.all_cons, Function.comp]
        rw [h.full (hl k (by simp))]
        congr 1
        exact ih (fun j hj => hl j (by simp [hj]))
    refine key _ (fun k hk => ?_)
    obtain ⟨j, hj⟩ := List.getElem?_of_mem (List.mem_of_mem_drop hk)
    exact (h.inn j k hj).2
  unfold RP.closed
  refine ⟨fun hd => ?_, fun hd => ?_⟩
  · rw [ia hd]; simp
  · rw [hcomp]
    cases ha : (s.pile.drop d).all s.full with
    | true =>
      rw [ib hd ha]
      exact ⟨rfl, fun _ => by simp⟩
    | false => exact ⟨ic hd ha, fun x => by cases x⟩

/-- may a line stand there? for both -/
def RP.bad (s : RP) (b : Nat) (first : Bs) : Prop :=
  b % 2 = 1 ∨ (s.closed (b / 2)).2 = false ∨
    match (s.closed (b / 2)).1.getLast? with
    | none => 0 < b ∨ s.nodes ≠ [] ∨ first = wWhen ∨ first = wOn
    | some top => s.fits top first = false ∨ (s.at top).inn + 1 ≠ b / 2

theorem RP.fits_iff {s : RP} {p : PS} (h : PRel s p) {k : Nat} (hk : k < s.nodes.length) (first : Bs) : s.fits k first = true ↔ ((((p.at (k + 1)).kids.length : Int) < roomM (p.at (k + 1)).kind) ∧ fitsW (p.at (k + 1)).kind first) := by
  have hn := h.node k hk
  have hf := h.few k hk
  have hki := kind_if _ hn.word
  have hkl : ((s.at k).kids.length : Int) < 1073741824 := by
    have h1 : k + 1 < p.nodes.length := by rw [h.len]; omega
    have h2 := h.ok.few (p.at (k + 1)) (by unfold PS.at; rw [getD_lt _ _ _ h1]; exact List.getElem_mem h1)
    rw [hn.kids, List.length_map] at h2
    have := h.most
    omega
  have hW : fitsW (kindOf (s.at k).kind) first ↔ (if (s.at k).kind = wIf then first = wWhen else if (s.at k).kind = wAlt then first = wOn else first ≠ wWhen ∧ first ≠ wOn) := by
    unfold fitsW
    by_cases h1 : (s.at k).kind = wIf
    · rw [if_pos (hki.1.2 h1), if_pos h1]
    · rw [if_neg (fun x => h1 (hki.1.1 x)), if_neg h1]
      by_cases h2 : (s.at k).kind = wAlt
      · rw [if_pos (hki.2.2 h2), if_pos h2]
      · rw [if_neg (fun x => h2 (hki.2.1 x)), if_neg h2]
  rw [hn.kind, hn.kids, List.length_map, hW]
  unfold RP.fits
  have hsplit : ∀ (c : Prop) [Decidable c], ((if c then false else if (s.at k).kind = wIf then decide (first = wWhen) else if (s.at k).kind = wAlt then decide (first = wOn) else decide (first ≠ wWhen ∧ first ≠ wOn)) = true) ↔ (¬ c ∧ (if (s.at k).kind = wIf then first = wWhen else if (s.at k).kind = wAlt then first = wOn else first ≠ wWhen ∧ first ≠ wOn)) := by
    intro c _
    by_cases hc : c
    · simp [hc]
    · rw [if_neg hc]
      simp only [hc, not_false_eq_true, true_and]
      split
      · exact decide_eq_true_iff
      · split <;> exact decide_eq_true_iff
  rw [hsplit]
  rcases room_kind _ hn.word with ⟨h1, _, h3⟩ | ⟨h1, _, h3⟩
  · rw [h1, h3]
    constructor
    · rintro ⟨_, b⟩; exact ⟨hkl, b⟩
    · rintro ⟨_, b⟩; exact ⟨by omega, b⟩
  · rw [h3] at hf ⊢
    constructor
    · rintro ⟨a, b⟩; exact ⟨by omega, b⟩
    · rintro ⟨a, b⟩; exact ⟨by omega, b⟩

theorem bad_iff {s : RP} {p : PS} (h : PRel s p) (b : Nat) (first : Bs) : s.bad b first ↔ (b % 2 ≠ 0 ∨ p.fits (b / 2) = false ∨ ¬ fitsW (p.at (p.above (b / 2))).kind first) := by
  obtain ⟨hc1, hc2⟩ := closed_is h (b / 2)
  have hcl : p.chain.length = s.pile.length + 1 := by rw [h.chain]; simp
  unfold RP.bad
  by_cases hd : s.pile.length < b / 2
  · have hf : p.fits (b / 2) = false := by
      unfold PS.fits
      rw [decide_eq_false (by omega)]
      rfl
    refine ⟨fun _ => .inr (.inl hf), fun _ => .inr (.inr ?_)⟩
    rw [hc1 hd]
    simp only
    cases hl : s.pile.getLast? with
    | none => simp only; left; omega
    | some top =>
      show s.fits top first = false ∨ (s.at top).inn + 1 ≠ b / 2
      right
      rw [List.getLast?_eq_getElem?] at hl
      have h1 := (h.inn _ _ hl).1
      have h2 := (List.getElem?_eq_some_iff.1 hl).1
      omega
  · have hd' : b / 2 ≤ s.pile.length := by omega
    obtain ⟨hc3, hc4⟩ := hc2 hd'
    have hfit : p.fits (b / 2) = (p.complete (b / 2 + 1) && decide (((p.at (p.above (b / 2))).kids.length : Int) < roomM (p.at (p.above (b / 2))).kind)) := by
      unfold PS.fits
      rw [decide_eq_true (by omega), Bool.true_and]
    cases hcomp : p.complete (b / 2 + 1) with
    | false =>
      rw [hcomp] at hc3 hfit
      exact ⟨fun _ => .inr (.inl (by rw [hfit]; rfl)), fun _ => .inr (.inl hc3)⟩
    | true =>
      rw [hcomp] at hc3 hfit
      rw [Bool.true_and] at hfit
      rw [hc3, hc4 hcomp, hfit]
      cases hdd : b / 2 with
      | zero =>
        have ha : p.above 0 = 0 := by unfold PS.above; rw [h.chain]; rfl
        rw [ha, h.root.1]
        have hr : decide (((p.at 0).kids.length : Int) < roomM 0) = false ↔ s.nodes ≠ [] := by
          rw [decide_eq_false_iff_not]
          have : roomM 0 = 1 := rfl
          rw [this]
          constructor
          · intro x y; rw [h.root.2.1.2 y] at x; exact x (by decide)
          · intro x y
            exact x (h.root.2.1.1 (List.length_eq_zero_iff.1 (by omega)))
        rw [hr]
        simp only [List.take_zero, List.getLast?_nil]
        have hfw : ¬ fitsW 0 first ↔ (first = wWhen ∨ first = wOn) := by
          unfold fitsW
          rw [if_neg (by decide), if_neg (by decide)]
          constructor
          · intro x
            by_cases a : first = wWhen
            · exact .inl a
            · by_cases c : first = wOn
              · exact .inr c
              · exact absurd ⟨a, c⟩ x
          · rintro (x | x) ⟨y, z⟩
            · exact y x
            · exact z x
        rw [hfw]
        constructor
        · rintro (x | x | x | x | x)
          · left; omega
          · cases x
          · left; omega
          · exact .inr (.inl x)
          · exact .inr (.inr x)
        · rintro (x | x | x)
          · left; omega
          · exact .inr (.inr (.inr (.inl x)))
          · exact .inr (.inr (.inr (.inr x)))
      | succ e =>
        have he : e < s.pile.length := by omega
        have hl : (s.pile.take (e + 1)).getLast? = some s.pile[e] := by
          rw [List.getLast?_eq_getElem?, List.length_take, Nat.min_eq_left (by omega)]
          rw [List.getElem?_take, if_pos (by omega)]
          exact List.getElem?_eq_getElem he
        have hinn := h.inn e s.pile[e] (List.getElem?_eq_getElem he)
        have ha : p.above (e + 1) = s.pile[e] + 1 := by
          unfold PS.above
          rw [h.chain, getD_lt _ _ _ (by simp; omega)]
          simp
        rw [hl, ha]
        simp only
        have hfi := RP.fits_iff h hinn.2 first
        constructor
        · rintro (x | x | x | x)
          · left; omega
          · cases x
          · by_cases hw : fitsW (p.at (s.pile[e] + 1)).kind first
            · right; left
              rw [decide_eq_false_iff_not]
              intro y
              have := hfi.2 ⟨y, hw⟩
              rw [x] at this
              cases this
            · exact .inr (.inr hw)
          · exact absurd (by omega) x
        · rintro (x | x | x)
          · left; omega
          · refine .inr (.inr (.inl ?_))
            rw [decide_eq_false_iff_not] at x
            cases hh : s.fits s.pile[e] first with
            | false => rfl
            | true => exact absurd (hfi.1 hh).1 x
          · refine .inr (.inr (.inl ?_))
            cases hh : s.fits s.pile[e] first with
            | false => rfl
            | true => exact absurd (hfi.1 hh).2 x
end Go.Proofs.YtnhidaamfnjdjaaGreatDoor
/- THE PARSERS, one line more: the same error, and tables that tell the same. Plain. -/
namespace Go.Proofs.YtnhidaamfnjdjaaGreatDoor
open Go.RowKit Go.Maps

theorem trimB_span (l : Bs) : trimB l = l.drop (spanN blankB l) := by
  induction l with
  | nil => rfl
  | cons c l ih =>
    by_cases h : c = 32
    · subst h
      rw [trimB_blank, ih]
      have : spanN blankB (32 :: l) = spanN blankB l + 1 := by
        unfold spanN
        rw [List.takeWhile_cons_of_pos (by decide)]
        rfl
      rw [this]; rfl
    · rw [trimB_other c l h]
      have : spanN blankB (c :: l) = 0 := by
        unfold spanN
        rw [List.takeWhile_cons_of_neg]
        · rfl
        · intro e
          have e2 : ((c.toNat : Int) == 32) = true := e
          rw [beq_iff_eq] at e2
          exact h (UInt8.toNat_inj.1 (by show c.toNat = 32; omega))
      rw [this]; rfl
theorem span_len (l : Bs) : l.length - (trimB l).length = spanN blankB l := by
  have := spanN_le blankB l
  rw [trimB_span, List.length_drop]
  omega

theorem kindOf_mem (t : Bs) (h : kindOf t ≠ 0) : t ∈ kindsW := by
  by_cases hm : t ∈ kindsW
  · exact hm
  · refine absurd ?_ h
    simp only [kindsW, List.mem_cons, List.not_mem_nil, or_false, not_or] at hm
    obtain ⟨h1, h2, h3, h4, h5, h6, h7, h8, h9, h10, h11, h12, h13, h14, h15, h16⟩ := hm
    unfold kindOf
    rw [if_neg h1, if_neg h2, if_neg h3, if_neg h4, if_neg h5, if_neg h6, if_neg h7, if_neg h8, if_neg h9, if_neg h10, if_neg h11, if_neg h12, if_neg h13, if_neg h14, if_neg h15, if_neg h16]
theorem processF_kind (σ : RS) : (processF σ).1.kind ≠ 0 := by
  have key : ∀ {c : Prop} [Decidable c] {a b : LP × RS}, a.1.kind ≠ 0 → b.1.kind ≠ 0 → (if c then a else b).1.kind ≠ 0 := by
    intro c _ a b ha hb; split
    · exact ha
    · exact hb
  have ho : ∀ (nm : Bs) (τ : RS), (onNameF nm τ).1.kind ≠ 0 := by
    intro nm τ
    unfold onNameF
    exact key (by show (3 : Int) ≠ 0; decide) (key (by show (4 : Int) ≠ 0; decide) (by show (5 : Int) ≠ 0; decide))
  unfold processF
  exact key (by show (1 : Int) ≠ 0; decide) (key (by show (2 : Int) ≠ 0; decide) (key (by show (7 : Int) ≠ 0; decide) (key (by show (8 : Int) ≠ 0; decide) (key (by show (9 : Int) ≠ 0; decide) (key (by show (11 : Int) ≠ 0; decide) (key (by show (13 : Int) ≠ 0; decide) (key (by show (6 : Int) ≠ 0; decide) (key (by show (10 : Int) ≠ 0; decide) (key (by show (15 : Int) ≠ 0; decide) (key (by show (16 : Int) ≠ 0; decide) (key (by show (5 : Int) ≠ 0; decide) (key (by show (4 : Int) ≠ 0; decide) (ho _ _)))))))))))))
theorem lineF_kind (above : Int) (σ : RS) : (lineF above σ).1.kind ≠ 0 := by
  unfold lineF
  split
  · show (12 : Int) ≠ 0; decide
  · split
    · unfold branchF
      split
      · show (14 : Int) ≠ 0; decide
      · split
        · show (14 : Int) ≠ 0; decide
        · split
          · show (14 : Int) ≠ 0; decide
          · show (14 : Int) ≠ 0; decide
    · exact processF_kind σ

def RP.badB (s : RP) (b : Nat) (first : Bs) : Bool :=
  decide (b % 2 = 1) || !(s.closed (b / 2)).2 ||
    match (s.closed (b / 2)).1.getLast? with
    | none => decide (0 < b ∨ s.nodes.length ≠ 0 ∨ first = wWhen ∨ first = wOn)
    | some top => !(s.fits top first) || decide ((s.at top).inn + 1 ≠ b / 2)
theorem badB_iff (s : RP) (b : Nat) (first : Bs) : s.badB b first = true ↔ s.bad b first := by
  unfold RP.badB RP.bad
  rw [Bool.or_eq_true, Bool.or_eq_true, decide_eq_true_iff, Bool.not_eq_true', or_assoc]
  refine or_congr Iff.rfl (or_congr Iff.rfl ?_)
  cases (s.closed (b / 2)).1.getLast? with
  | none =>
    simp only [decide_eq_true_iff]
    have : s.nodes.length ≠ 0 ↔ s.nodes ≠ [] := ⟨fun h e => h (by rw [e]; rfl), fun h e => h (List.length_eq_zero_iff.1 e)⟩
    rw [this]
  | some top => simp only [Bool.or_eq_true, Bool.not_eq_true', decide_eq_true_iff]

def RP.put (s : RP) (pile : List Nat) (d : Nat) (n : RN) (no : Int) (xs : List RX) : RP :=
  let new : RNd := ⟨n.kind, no, d, n.name, n.over, n.ex, []⟩
  { nodes := (match pile.getLast? with | none => s.nodes | some top => s.nodes.set top { s.at top with kids := (s.at top).kids ++ [s.nodes.length] }) ++ [new]
    pile := pile ++ [s.nodes.length]
    xs := xs }
def RP.line (s : RP) (l : Bs) (no : Int) : RP × Int :=
  let b := spanN blankB l
  let x0 := startX (l.drop b) s.xs
  if 10 < b / 2 then (s, 3)
  else if s.badB b x0.now then (s, 2)
  else if (rend (rswitch x0).2).e ≠ 0 then (s, (rend (rswitch x0).2).e)
  else (s.put (s.closed (b / 2)).1 (b / 2) (rswitch x0).1 no (rswitch x0).2.xs, 0)

/-- the same error -/
theorem line_err {s : RP} {p : PS} (h : PRel s p) (l : Bs) (no : Int) (hl : trimB l ≠ []) : (s.line l no).2 = (p.add l no).2 := by
  unfold RP.line PS.add
  rw [if_neg hl, span_len l]
  dsimp only
  by_cases h10 : 10 < spanN blankB l / 2
  · rw [if_pos h10, if_pos h10]
  · rw [if_neg h10, if_neg h10]
    have hb := (badB_iff s (spanN blankB l) (startX (l.drop (spanN blankB l)) s.xs).now).trans (bad_iff h _ _)
    by_cases hx : spanN blankB l % 2 ≠ 0 ∨ p.fits (spanN blankB l / 2) = false
    · rw [if_pos hx, if_pos (hb.2 (by rcases hx with x | x; exact .inl x; exact .inr (.inl x)))]
    · rw [if_neg hx, trimB_span l]
      by_cases hf : fitsW (p.at (p.above (spanN blankB l / 2))).kind (startX (l.drop (spanN blankB l)) s.xs).now
      · have hnb : ¬ s.badB (spanN blankB l) (startX (l.drop (spanN blankB l)) s.xs).now = true := by
          rw [hb]
          rintro (x | x | x)
          · exact hx (.inl x)
          · exact hx (.inr x)
          · exact x hf
        rw [if_neg hnb]
        have hboth := line_both (l.drop (spanN blankB l)) s.xs _ hf
        by_cases he : (rend (rswitch (startX (l.drop (spanN blankB l)) s.xs)).2).e ≠ 0
        · rw [if_pos he, if_pos (by rw [← hboth.1]; exact he)]
          exact hboth.1
        · rw [if_neg he, if_neg (by rw [← hboth.1]; exact he)]
      · rw [if_pos (hb.2 (.inr (.inr hf)))]
        have h2 := line_nofit (l.drop (spanN blankB l)) s.xs _ hf
        rw [if_pos (by rw [h2]; decide)]
        exact h2.symm

theorem NRel.more {xs : List RX} {n : RNd} {q : PNode} (h : NRel xs n q) (ys : List RX) : NRel (xs ++ ys) n q :=
  ⟨h.word, h.kind, h.line, h.name, h.chan, h.nd, h.none, fun k hk => (h.some k hk).more ys, h.kids, h.wf⟩

theorem RP.put_at (s : RP) (pile : List Nat) (d : Nat) (n : RN) (no : Int) (xs : List RX) (ht : ∀ t, pile.getLast? = some t → t < s.nodes.length) (i : Nat) :
    (s.put pile d n no xs).at i = if pile.getLast? = some i then { s.at i with kids := (s.at i).kids ++ [s.nodes.length] } else if i = s.nodes.length then ⟨n.kind, no, d, n.name, n.over, n.ex, []⟩ else s.at i := by
  unfold RP.put RP.at
  dsimp only
  cases hg : pile.getLast? with
  | none =>
    rw [if_neg (by simp)]
    simp only [List.getD]
    rcases Nat.lt_trichotomy i s.nodes.length with hx | hx | hx
    · rw [List.getElem?_append_left hx, if_neg (by omega)]
    · subst hx; simp
    · rw [List.getElem?_eq_none (by simp; omega), if_neg (by omega), List.getElem?_eq_none (by omega)]
  | some t =>
    have htl := ht t hg
    simp only [List.getD, Option.some.injEq]
    rcases Nat.lt_trichotomy i s.nodes.length with hx | hx | hx
    · rw [List.getElem?_append_left (by simpa using hx), List.getElem?_set]
      by_cases e : t = i
      · subst e; simp [hx]
      · rw [if_neg e, if_neg e, if_neg (by omega)]
    · subst hx
      rw [if_neg (by omega)]
      simp
    · rw [List.getElem?_eq_none (by simp; omega), if_neg (by omega), if_neg (by omega), List.getElem?_eq_none (by omega)]

theorem put_rel {s : RP} {p : PS} (h : PRel s p) (hm : p.nodes.length ≤ 1999) (d : Nat) (hd : p.fits d = true) (n : RN) (q : LP) (no : Int) (ys : List RX) (hr : LRep (s.xs ++ ys) n q) (hw : n.kind ∈ kindsW) (hok : (p.put d q no).Ok) :
    PRel (s.put (s.closed d).1 d n no (s.xs ++ ys)) (p.put d q no) := by
  have hcl : p.chain.length = s.pile.length + 1 := by rw [h.chain]; simp
  have hdl := PS.fits_lt hd
  have hdp : d ≤ s.pile.length := by omega
  have hfit := hd
  unfold PS.fits at hfit
  rw [Bool.and_eq_true, Bool.and_eq_true, decide_eq_true_iff, decide_eq_true_iff] at hfit
  obtain ⟨⟨_, hcomp⟩, hroom⟩ := hfit
  have hcd := ((closed_is h d).2 hdp).2 hcomp
  rw [hcd]
  have hab := h.ok.above hdl
  have hpa := Go.Proofs.YtnhidaamfnjdjaaGreatDoor.put_at p d q no hab
  have htop : ∀ t, (s.pile.take d).getLast? = some t → d ≠ 0 ∧ s.pile[d - 1]? = some t ∧ p.above d = t + 1 ∧ t < s.nodes.length := by
    intro t ht
    rw [List.getLast?_eq_getElem?, List.length_take, Nat.min_eq_left hdp] at ht
    have hd0 : d ≠ 0 := by
      intro e; subst e; simp at ht
    rw [List.getElem?_take, if_pos (by omega)] at ht
    refine ⟨hd0, ht, ?_, (h.inn _ _ ht).2⟩
    unfold PS.above
    rw [h.chain]
    obtain ⟨e, rfl⟩ : ∃ e, d = e + 1 := ⟨d - 1, by omega⟩
    simp only [List.getD, List.getElem?_cons_succ, List.getElem?_map]
    have : e + 1 - 1 = e := by omega
    rw [this] at ht
    rw [ht]
    rfl
  have hsa := RP.put_at s (s.pile.take d) d n no (s.xs ++ ys) (fun t ht => (htop t ht).2.2.2)
  have hsl : (s.put (s.pile.take d) d n no (s.xs ++ ys)).nodes.length = s.nodes.length + 1 := by
    unfold RP.put
    dsimp only
    split <;> simp
  have hpl : (p.put d q no).nodes.length = p.nodes.length + 1 := by simp [PS.put]
  have hlen := h.len
  -- who is above, for both
  have hcorr : ∀ i, i < s.nodes.length → ((s.pile.take d).getLast? = some i ↔ i + 1 = p.above d) := by
    intro i hi
    constructor
    · intro ht; exact (htop i ht).2.2.1.symm
    · intro e
      have hd0 : d ≠ 0 := by
        intro e0; subst e0
        have : p.above 0 = 0 := by unfold PS.above; rw [h.chain]; rfl
        omega
      obtain ⟨e', rfl⟩ : ∃ e', d = e' + 1 := ⟨d - 1, by omega⟩
      have he : e' < s.pile.length := by omega
      rw [List.getLast?_eq_getElem?, List.length_take, Nat.min_eq_left hdp, List.getElem?_take, if_pos (by omega)]
      have : e' + 1 - 1 = e' := by omega
      rw [this, List.getElem?_eq_getElem he]
      have ha : p.above (e' + 1) = s.pile[e'] + 1 := by
        unfold PS.above
        rw [h.chain, getD_lt _ _ _ (by simp; omega)]
        simp
      rw [ha] at e
      congr 1
      omega
  refine ⟨by rw [hpl, hsl, hlen], ?_, ?_, ?_, ?_, ?_, by rw [hpl]; omega, hok⟩
  · intro i hi
    rw [hsl] at hi
    rw [hsa i, hpa (i + 1)]
    rcases Nat.lt_or_ge i s.nodes.length with hx | hx
    · have hn := (h.node i hx).more ys
      by_cases ht : (s.pile.take d).getLast? = some i
      · rw [if_pos ht, if_pos ((hcorr i hx).1 ht)]
        exact ⟨hn.word, hn.kind, hn.line, hn.name, hn.chan, hn.nd, hn.none, hn.some, by
          show (p.at (i + 1)).kids ++ [p.nodes.length] = ((s.at i).kids ++ [s.nodes.length]).map (· + 1)
          rw [hn.kids, hlen]; simp, hn.wf⟩
      · rw [if_neg ht, if_neg (fun e => ht ((hcorr i hx).2 e)), if_neg (by omega), if_neg (by omega)]
        exact hn
    · have hi2 : i = s.nodes.length := by omega
      subst hi2
      rw [if_neg (fun ht => by have := (htop _ ht).2.2.2; omega), if_pos rfl, if_neg (by omega), if_pos (by omega)]
      exact ⟨hw, hr.kind, rfl, hr.name, hr.chan, ⟨rfl, rfl⟩, hr.none, hr.some, rfl, hr.wf⟩
  · rw [hpa 0]
    have hne : ¬ (s.put (s.pile.take d) d n no (s.xs ++ ys)).nodes = [] := by
      intro e; rw [e] at hsl; simp at hsl
    by_cases e : 0 = p.above d
    · rw [if_pos e]
      have hk0 : (p.at 0).kids = [] := by
        rw [← e, h.root.1] at hroom
        have h1 : roomM 0 = 1 := rfl
        rw [h1] at hroom
        exact List.length_eq_zero_iff.1 (by omega)
      refine ⟨h.root.1, ⟨fun x => ?_, fun x => absurd x hne⟩, ?_⟩
      · have x : (p.at 0).kids ++ [p.nodes.length] = [] := x
        simp at x
      · show ((p.at 0).kids ++ [p.nodes.length]).length ≤ 1
        rw [hk0]; simp
    · rw [if_neg e, if_neg (by omega)]
      refine ⟨h.root.1, ⟨fun x => ?_, fun x => absurd x hne⟩, h.root.2.2⟩
      have hn := h.root.2.1.1 x
      have hd0 : d ≠ 0 := by
        intro e0; subst e0
        exact e (by unfold PS.above; rw [h.chain]; rfl)
      have : s.pile[0]? = some s.pile[0] := List.getElem?_eq_getElem (by omega)
      have := (h.inn _ _ this).2
      rw [hn] at this
      simp at this
  · show p.chain.take (d + 1) ++ [p.nodes.length] = 0 :: (s.pile.take d ++ [s.nodes.length]).map (· + 1)
    rw [h.chain, List.take_succ_cons, hlen]
    simp [List.map_take]
  · intro j k hk
    have hk : (s.pile.take d ++ [s.nodes.length])[j]? = some k := hk
    rw [hsl]
    have hl : (s.pile.take d).length = d := by rw [List.length_take]; omega
    rcases Nat.lt_trichotomy j d with hx | hx | hx
    · rw [List.getElem?_append_left (by omega), List.getElem?_take, if_pos hx] at hk
      have hin := h.inn j k hk
      refine ⟨?_, by omega⟩
      rw [hsa k]
      split
      · exact hin.1
      · rw [if_neg (by omega)]; exact hin.1
    · subst hx
      rw [List.getElem?_append_right (by omega), hl] at hk
      simp at hk
      subst hk
      refine ⟨?_, by omega⟩
      rw [hsa, if_neg (fun ht => by have := (htop _ ht).2.2.2; omega), if_pos rfl]
    · rw [List.getElem?_eq_none (by simp; omega)] at hk
      cases hk
  · intro i hi
    rw [hsl] at hi
    rw [hsa i]
    rcases Nat.lt_or_ge i s.nodes.length with hx | hx
    · have hfw := h.few i hx
      split
      · rename_i ht
        have hn := h.node i hx
        have e := (hcorr i hx).1 ht
        rw [← e, hn.kind, hn.kids, List.length_map] at hroom
        show (((s.at i).kids ++ [s.nodes.length]).length : Int) ≤ _
        rw [List.length_append, List.length_singleton]
        push_cast
        show _ ≤ roomM (kindOf (s.at i).kind)
        omega
      · rw [if_neg (by omega)]; exact hfw
    · have hi2 : i = s.nodes.length := by omega
      subst hi2
      rw [if_neg (fun ht => by have := (htop _ ht).2.2.2; omega), if_pos rfl]
      show ((0 : Nat) : Int) ≤ roomM (kindOf n.kind)
      rcases room_kind _ hw with ⟨_, _, h3⟩ | ⟨h1, _, h3⟩
      · rw [h3]; decide
      · rw [h3]; exact h1

/-- and tables that tell the same -/
theorem line_rel {s : RP} {p : PS} (h : PRel s p) (hm : p.nodes.length ≤ 1999) (l : Bs) (no : Int) (hl : trimB l ≠ []) (h0 : (p.add l no).2 = 0) : PRel (s.line l no).1 (p.add l no).1 := by
  have hok := h.ok.add l no
  unfold RP.line PS.add at *
  rw [if_neg hl, span_len l] at h0 hok ⊢
  dsimp only at h0 hok ⊢
  by_cases h10 : 10 < spanN blankB l / 2
  · rw [if_pos h10] at h0; exact absurd h0 (by show ¬ (3 : Int) = 0; decide)
  · rw [if_neg h10] at h0 hok ⊢
    rw [if_neg h10]
    have hb := (badB_iff s (spanN blankB l) (startX (l.drop (spanN blankB l)) s.xs).now).trans (bad_iff h _ _)
    by_cases hx : spanN blankB l % 2 ≠ 0 ∨ p.fits (spanN blankB l / 2) = false
    · rw [if_pos hx] at h0; exact absurd h0 (by show ¬ (2 : Int) = 0; decide)
    · rw [if_neg hx, trimB_span l] at h0 hok ⊢
      by_cases hf : fitsW (p.at (p.above (spanN blankB l / 2))).kind (startX (l.drop (spanN blankB l)) s.xs).now
      · have hnb : ¬ s.badB (spanN blankB l) (startX (l.drop (spanN blankB l)) s.xs).now = true := by
          rw [hb]
          rintro (x | x | x)
          · exact hx (.inl x)
          · exact hx (.inr x)
          · exact x hf
        rw [if_neg hnb]
        obtain ⟨b1, ⟨ys, b2⟩, b3⟩ := line_both (l.drop (spanN blankB l)) s.xs _ hf
        by_cases he : (readLineF (l.drop (spanN blankB l)) (p.at (p.above (spanN blankB l / 2))).kind).2 ≠ 0
        · rw [if_pos he] at h0; exact absurd h0 he
        · rw [if_neg he] at hok ⊢
          rw [if_neg (by rw [b1]; exact he)]
          have he' : (readLineF (l.drop (spanN blankB l)) (p.at (p.above (spanN blankB l / 2))).kind).2 = 0 := by
            by_cases z : (readLineF (l.drop (spanN blankB l)) (p.at (p.above (spanN blankB l / 2))).kind).2 = 0
            · exact z
            · exact absurd z he
          have b4 := b3 he'
          have hfit : p.fits (spanN blankB l / 2) = true := by
            cases hh : p.fits (spanN blankB l / 2) with
            | true => rfl
            | false => exact absurd (.inr hh) hx
          have hw : (rswitch (startX (l.drop (spanN blankB l)) s.xs)).1.kind ∈ kindsW := by
            apply kindOf_mem
            rw [← b4.kind]
            exact lineF_kind _ _
          rw [b2] at b4 ⊢
          exact put_rel h hm _ hfit _ _ no ys b4 hw hok
      · have h2 := line_nofit (l.drop (spanN blankB l)) s.xs _ hf
        rw [if_pos (by rw [h2]; decide), h2] at h0
        exact absurd h0 (by decide)
end Go.Proofs.YtnhidaamfnjdjaaGreatDoor
/- THE PARSERS, all lines. Plain. -/
namespace Go.Proofs.YtnhidaamfnjdjaaGreatDoor
open Go.RowKit Go.Maps

inductive RGone where
  | ok (s : RP)
  | err (e l : Int)
def rgo : RP → Nat → List Bs → RGone
  | s, _, [] => .ok s
  | s, n, l :: r => if trimB l = [] then rgo s (n + 1) r else if (s.line l ((n : Int) + 1)).2 ≠ 0 then .err (s.line l ((n : Int) + 1)).2 ((n : Int) + 1) else rgo (s.line l ((n : Int) + 1)).1 (n + 1) r
def startRP : RP := ⟨[], [], []⟩
theorem start_rel : PRel startRP startP where
  len := rfl
  node := fun i hi => by simp [startRP] at hi
  root := ⟨rfl, ⟨fun _ => rfl, fun _ => rfl⟩, by decide⟩
  chain := rfl
  inn := fun j k hk => by simp [startRP] at hk
  few := fun i hi => by simp [startRP] at hi
  most := by decide
  ok := startP_ok

/-- the same error, or tables that tell the same -/
def GRel : RGone → Gone → Prop
  | .ok s, .ok p => PRel s p
  | .err e l, .err f m => e = f ∧ l = m
  | _, _ => False
theorem go_rel : ∀ (ls : List Bs) (s : RP) (p : PS) (n : Nat), PRel s p → p.nodes.length + ls.length ≤ 1999 → GRel (rgo s n ls) (goL p n ls)
  | [], s, p, n, h, _ => h
  | l :: r, s, p, n, h, hb => by
    have hlen : (l :: r).length = r.length + 1 := rfl
    rw [goL_cons]
    unfold rgo
    by_cases ht : trimB l = []
    · rw [if_pos ht]
      have e : p.add l ((n : Int) + 1) = (p, 0) := by unfold PS.add; rw [if_pos ht]
      rw [e, if_neg (by simp)]
      exact go_rel r s p (n + 1) h (by omega)
    · rw [if_neg ht]
      have he := line_err h l ((n : Int) + 1) ht
      by_cases h0 : (p.add l ((n : Int) + 1)).2 = 0
      · rw [if_neg (by rw [he]; simpa using h0), if_neg (by simpa using h0)]
        have := PS.add_len p l ((n : Int) + 1)
        exact go_rel r _ _ (n + 1) (line_rel h (by omega) l _ ht h0) (by omega)
      · rw [if_pos (by rw [he]; exact h0), if_pos h0]
        exact ⟨he, rfl⟩

/-- a text, by the reference -/
def rparse (text : Bs) : Option RP × Int × Int :=
  if 800 < text.length then (none, 1, 0)
  else match rgo startRP 0 (linesF text) with
    | .err e l => (none, e, l)
    | .ok s => if (s.closed 0).2 = false ∨ s.nodes.length = 0 then (none, 2, ((linesF text).length : Int) + 1) else (some s, 0, 0)

theorem complete_rel {s : RP} {p : PS} (h : PRel s p) : p.complete 0 = true ↔ ¬ ((s.closed 0).2 = false ∨ s.nodes.length = 0) := by
  have hc := ((closed_is h 0).2 (Nat.zero_le _)).1
  have e : p.complete 0 = (p.full 0 && p.complete 1) := by
    unfold PS.complete
    rw [h.chain]
    simp
  have hf : p.full 0 = true ↔ s.nodes.length ≠ 0 := by
    unfold PS.full
    rw [h.root.1, decide_eq_true_iff]
    have : roomL 0 = 1 := rfl
    rw [this]
    constructor
    · intro x y
      have := h.root.2.1.2 (List.length_eq_zero_iff.1 y)
      rw [this] at x
      exact absurd x (by decide)
    · intro x
      have : (p.at 0).kids ≠ [] := fun y => x (by rw [h.root.2.1.1 y]; rfl)
      have := List.length_pos_iff.2 this
      omega
  rw [e, Bool.and_eq_true, hf, ← hc, not_or]
  constructor
  · rintro ⟨a, b⟩; exact ⟨by rw [b]; simp, a⟩
  · rintro ⟨a, b⟩; exact ⟨b, by simpa using a⟩

/-- both parsers, of any text -/
theorem parse_rel (text : Bs) : (rparse text).2 = (parseF text (linesF text)).2 ∧ ∀ p, (parseF text (linesF text)).1 = some p → ∃ s, (rparse text).1 = some s ∧ PRel s p := by
  by_cases hl : text.length ≤ 800
  · have hn := linesF_len text
    have hg := go_rel (linesF text) startRP startP 0 start_rel (by show 1 + _ ≤ _; omega)
    rw [parseF_go text hl]
    unfold rparse
    rw [if_neg (by omega)]
    cases hr : rgo startRP 0 (linesF text) with
    | err e l =>
      cases hp : goL startP 0 (linesF text) with
      | err f m =>
        rw [hr, hp] at hg
        obtain ⟨rfl, rfl⟩ := hg
        exact ⟨rfl, fun p x => by cases x⟩
      | ok p => rw [hr, hp] at hg; exact hg.elim
    | ok s =>
      cases hp : goL startP 0 (linesF text) with
      | err f m => rw [hr, hp] at hg; exact hg.elim
      | ok p =>
        rw [hr, hp] at hg
        have hg : PRel s p := hg
        have hc := complete_rel hg
        dsimp only
        by_cases hcc : p.complete 0 = true
        · rw [if_pos hcc, if_neg (hc.1 hcc)]
          exact ⟨rfl, fun p' x => by injection x with x; subst x; exact ⟨s, rfl, hg⟩⟩
        · rw [if_neg hcc]
          have : (s.closed 0).2 = false ∨ s.nodes.length = 0 := by
            by_cases y : (s.closed 0).2 = false ∨ s.nodes.length = 0
            · exact y
            · exact absurd (hc.2 y) hcc
          rw [if_pos this]
          exact ⟨rfl, fun p' x => by cases x⟩
  · unfold rparse parseF
    rw [if_pos (by omega), if_pos (by omega)]
    exact ⟨rfl, fun p x => by cases x⟩
end Go.Proofs.YtnhidaamfnjdjaaGreatDoor
