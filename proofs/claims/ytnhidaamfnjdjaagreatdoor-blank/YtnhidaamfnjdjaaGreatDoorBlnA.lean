import Derived.Test.YtnhidaamfnjdjaaGreatDoorBagB
import Derived.Test.YtnhidaamfnjdjaaGreatDoorGoodB
/- BLANK's TEXTS, plain: the lines of a text as its loop finds them; what it puts together. -/
namespace Go.Proofs.YtnhidaamfnjdjaaGreatDoor
open Go.RowKit Go.Maps

def scanStep (p : List Bs × Bs) (c : UInt8) : List Bs × Bs := if c = 10 then (p.1 ++ [p.2], []) else (p.1, p.2 ++ [c])
def scanF (l : Bs) : List Bs × Bs := l.foldl scanStep ([], [])
theorem scanF_snoc (l : Bs) (c : UInt8) : scanF (l ++ [c]) = scanStep (scanF l) c := by unfold scanF; rw [List.foldl_append]; rfl
theorem flatL_append (a b : List Bs) : flatL (a ++ b) = flatL a ++ flatL b := List.flatMap_append
theorem flatL_one (a : Bs) : flatL [a] = a ++ [10] := by simp [flatL]
theorem scanF_is (l : Bs) : flatL (scanF l).1 ++ (scanF l).2 = l := by
  have key : ∀ (l : Bs) (p : List Bs × Bs), flatL (l.foldl scanStep p).1 ++ (l.foldl scanStep p).2 = (flatL p.1 ++ p.2) ++ l := by
    intro l
    induction l with
    | nil => intro p; simp
    | cons c l ih =>
      intro p
      rw [List.foldl_cons, ih]
      unfold scanStep
      split
      · rename_i h; subst h
        rw [flatL_append, flatL_one]; simp
      · simp
  have := key l ([], [])
  simpa [scanF, flatL] using this
theorem scanF_flat (ls : List Bs) (h : ∀ l ∈ ls, (10 : UInt8) ∉ l) : scanF (flatL ls) = (ls, []) := by
  have one : ∀ (l : Bs) (p : List Bs × Bs), (10 : UInt8) ∉ l → l.foldl scanStep p = (p.1, p.2 ++ l) := by
    intro l
    induction l with
    | nil => intro p _; simp
    | cons c l ih =>
      intro p hc
      simp only [List.mem_cons, not_or] at hc
      rw [List.foldl_cons, ih _ hc.2]
      unfold scanStep
      rw [if_neg (fun e => hc.1 e.symm)]
      simp
  have key : ∀ (ls : List Bs) (p : List Bs), (∀ l ∈ ls, (10 : UInt8) ∉ l) → (flatL ls).foldl scanStep (p, []) = (p ++ ls, []) := by
    intro ls
    induction ls with
    | nil => intro p _; simp [flatL]
    | cons l ls ih =>
      intro p h
      have e : flatL (l :: ls) = l ++ ([10] ++ flatL ls) := by simp [flatL]
      rw [e, List.foldl_append, one l _ (h l (by simp)), List.foldl_append]
      have e2 : [10].foldl scanStep (p, [] ++ l) = (p ++ [l], []) := by simp [scanStep]
      rw [e2, ih _ (fun x hx => h x (by simp [hx]))]
      simp
  exact key ls [] h
theorem scanF_few (l : Bs) : (scanF l).1.length ≤ l.length := by
  have := congrArg List.length (scanF_is l)
  have h2 : ∀ ls : List Bs, ls.length ≤ (flatL ls).length := by
    intro ls
    induction ls with
    | nil => simp
    | cons a ls ih =>
      have e : flatL (a :: ls) = (a ++ [10]) ++ flatL ls := by simp [flatL]
      rw [e]; simp; omega
  have := h2 (scanF l).1
  simp at *
  omega

/-- a line as bag writes it -/
def lineI (x : Item) : Bs := List.replicate (2 * x.d) 32 ++ x.b
theorem textI_flat (xs : List Item) : textI xs = flatL (xs.map lineI) := by
  unfold textI flatL
  rw [List.flatMap_map]
  rfl
theorem rsOf_ok (zs : List Int) : RsOk (rsOf zs) := by
  refine ⟨by simp [rsOf]; omega, ?_⟩
  intro r hr
  unfold rsOf at hr
  obtain ⟨z, _, rfl⟩ := List.mem_map.1 hr
  exact ⟨pickG_lt _ _ (by decide), pickG_lt _ _ (by decide)⟩
theorem lineI_no (xs : List Item) (h : ∀ x ∈ xs, x.Ok) : ∀ l ∈ xs.map lineI, (10 : UInt8) ∉ l := by
  intro l hl
  obtain ⟨x, hx, rfl⟩ := List.mem_map.1 hl
  unfold lineI
  rw [List.mem_append, not_or]
  refine ⟨?_, (h x hx).nl⟩
  intro h2; rw [List.mem_replicate] at h2; exact absurd h2.2 (by decide)
theorem bag_len (zs : List Int) : (textI (bagI (rsOf zs))).length ≤ 1200 := by
  have h : ∀ rs : List (Nat × Nat), (textI (rs.flatMap fun r => bitI r.1 r.2)).length ≤ 120 * rs.length := by
    intro rs
    induction rs with
    | nil => simp [textI]
    | cons r rs ih =>
      rw [List.flatMap_cons, textI_append, List.length_append, List.length_cons]
      have := textI_bit_len r.1 r.2
      omega
  unfold bagI
  rw [textI_append, textI_append, List.length_append, List.length_append]
  have h1 := h (rsOf zs)
  have h2 := (rsOf_ok zs).len
  have h3 : (textI headI).length ≤ 100 := by decide +kernel
  have h4 : (textI tailI).length ≤ 300 := by decide +kernel
  omega
theorem items_few (xs : List Item) : xs.length ≤ (textI xs).length := by
  induction xs with
  | nil => simp
  | cons x xs ih =>
    have e : textI (x :: xs) = kl x.d x.b ++ textI xs := by simp [textI]
    rw [e, List.length_append, List.length_cons]
    have : 1 ≤ (kl x.d x.b).length := by simp [kl]; omega
    omega

/-- what is put together, line by line -/
theorem lay_snoc (bad put b : Nat) : ∀ (ys : List Item) (i : Nat) (x : Item), lay bad put b i (ys ++ [x]) = lay bad put b i ys ++ ((if i + ys.length = put then [List.replicate b 32] else []) ++ [List.replicate (2 * x.d) 32 ++ (x.b ++ wrB bad (i + ys.length) ++ tlB b (i + ys.length))])
  | [], i, x => by simp [lay]
  | y :: ys, i, x => by
    rw [List.cons_append]
    unfold lay
    rw [lay_snoc bad put b ys (i + 1) x]
    have e : i + 1 + ys.length = i + (y :: ys).length := by simp; omega
    rw [e]
    simp
theorem lay_len (bad put put' b : Nat) : ∀ (ys : List Item) (i : Nat), (∀ j, i ≤ j → j < i + ys.length → j ≠ put') → (flatL (lay bad put' 0 i ys)).length ≤ (flatL (lay bad put b i ys)).length
  | [], i, _ => by simp [lay]
  | y :: ys, i, h => by
    have ih := lay_len bad put put' b ys (i + 1) (fun j h1 h2 => h j (by omega) (by simp; omega))
    unfold lay
    rw [if_neg (h i (Nat.le_refl _) (by simp)), List.nil_append]
    have e : ∀ (a : Bs) (l : List Bs), (flatL (a :: l)).length = a.length + 1 + (flatL l).length := by intro a l; simp [flatL]; omega
    rw [flatL_append, List.length_append, e, e]
    have t0 : (tlB 0 i).length = 0 := by simp [tlB]
    simp only [List.length_append]
    omega
theorem lay_few (bad put b : Nat) : ∀ (ys : List Item) (i : Nat), (flatL (lay bad put b i ys)).length ≤ (textI ys).length + ys.length * (b + 6)
  | [], i => by simp [lay, flatL]
  | y :: ys, i => by
    have ih := lay_few bad put b ys (i + 1)
    have e : ∀ (a : Bs) (l : List Bs), (flatL (a :: l)).length = a.length + 1 + (flatL l).length := by intro a l; simp [flatL]; omega
    have e2 : (textI (y :: ys)).length = (kl y.d y.b).length + (textI ys).length := by simp [textI]
    have e3 : (kl y.d y.b).length = 2 * y.d + y.b.length + 1 := by simp [kl]; omega
    have e4 : (y :: ys).length * (b + 6) = ys.length * (b + 6) + (b + 6) := by rw [List.length_cons, Nat.succ_mul]
    have t1 : (tlB b i).length ≤ 1 := by unfold tlB; split <;> simp
    have t2 : (wrB bad i).length ≤ 4 := by unfold wrB; split <;> simp
    have t3 : (flatL (if i = put then [List.replicate b 32] else [])).length ≤ b + 1 := by split <;> simp [flatL]
    unfold lay
    rw [flatL_append, List.length_append, e, e2, e3, e4]
    simp only [List.length_append, List.length_replicate]
    omega
theorem lay_next (bad put b : Nat) (xs : List Item) (k : Nat) (h : k < xs.length) :
    flatL (lay bad put b 0 (xs.take (k + 1))) = flatL (lay bad put b 0 (xs.take k)) ++ ((if k = put then List.replicate b 32 ++ [10] else []) ++ (lineI xs[k] ++ wrB bad k ++ tlB b k ++ [10])) := by
  have e : xs.take (k + 1) = xs.take k ++ [xs[k]] := by rw [List.take_add_one, List.getElem?_eq_getElem h]; rfl
  have hl : (xs.take k).length = k := by rw [List.length_take]; omega
  rw [e, lay_snoc, flatL_append, flatL_append, hl, Nat.zero_add]
  congr 1
  congr 1
  · split <;> simp [flatL]
  · simp [flatL, lineI]
end Go.Proofs.YtnhidaamfnjdjaaGreatDoor
