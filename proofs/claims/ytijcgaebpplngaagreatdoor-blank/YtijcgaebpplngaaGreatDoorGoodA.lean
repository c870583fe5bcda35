import Derived.Test.YtijcgaebpplngaaGreatDoorParsE
import Derived.Test.YtijcgaebpplngaaGreatDoorPure
import Derived.IntWalk
/- EVERY TEXT's TABLE IS GOOD, plain: its nodes stand in the order of a walk. Nothing of the dump. -/
namespace Go.Proofs.YtijcgaebpplngaaGreatDoor
open Go.RowKit

/-- the kids of a node, one behind the other: each takes up what lies from itself to its end -/
def KRow (E : Nat → Nat) : Nat → List Nat → Nat → Prop
  | a, [], e => a = e
  | a, k :: ks, e => k = a ∧ k < E k ∧ KRow E (E k) ks e

theorem KRow.le {E : Nat → Nat} : ∀ {ks : List Nat} {a e : Nat}, KRow E a ks e → a ≤ e
  | [], _, _, h => Nat.le_of_eq h
  | k :: ks, a, e, ⟨h1, h2, h3⟩ => by have := h3.le; omega
theorem KRow.mem {E : Nat → Nat} : ∀ {ks : List Nat} {a e : Nat}, KRow E a ks e → ∀ k ∈ ks, a ≤ k ∧ k < E k ∧ E k ≤ e
  | [], _, _, _, k, hk => by simp at hk
  | j :: ks, a, e, ⟨h1, h2, h3⟩, k, hk => by
    have hle := h3.le
    simp only [List.mem_cons] at hk
    rcases hk with rfl | hk
    · omega
    · have := h3.mem k hk; omega
theorem KRow.same {E E' : Nat → Nat} : ∀ {ks : List Nat} {a e : Nat}, KRow E a ks e → (∀ k ∈ ks, E' k = E k) → KRow E' a ks e
  | [], _, _, h, _ => h
  | k :: ks, a, e, ⟨h1, h2, h3⟩, h => by
    have hk := h k (by simp)
    refine ⟨h1, by omega, ?_⟩
    rw [hk]
    exact h3.same (fun j hj => h j (by simp [hj]))
theorem KRow.more {E : Nat → Nat} : ∀ {ks : List Nat} {a e : Nat}, KRow E a ks e → e < E e → KRow E a (ks ++ [e]) (E e)
  | [], a, e, h, he => by
    have h : a = e := h
    subst h
    exact ⟨rfl, he, rfl⟩
  | k :: ks, a, e, ⟨h1, h2, h3⟩, he => ⟨h1, h2, h3.more he⟩
/-- the last one ends later -/
theorem KRow.last {E E' : Nat → Nat} {l e' : Nat} : ∀ {ks : List Nat} {a e : Nat}, KRow E a ks e → ks.getLast? = some l → (∀ k, k < e → E k ≠ e → E' k = E k) → E' l = e' → l < e' → KRow E' a ks e'
  | [], _, _, _, h, _, _, _ => by simp at h
  | [k], a, e, ⟨h1, h2, h3⟩, h, _, h5, h6 => by
    simp at h
    subst h
    exact ⟨h1, by omega, h5⟩
  | k :: j :: ks, a, e, ⟨h1, h2, h3⟩, h, h4, h5, h6 => by
    have hj := h3.mem j (by simp)
    have hk : E' k = E k := h4 k (by omega) (by omega)
    refine ⟨h1, by omega, ?_⟩
    rw [hk]
    exact KRow.last h3 (by simpa using h) h4 h5 h6

/-- what the parser's state keeps to: ends, who is above whom, the chain -/
structure Walked (s : PS) (E par : Nat → Nat) : Prop where
  row : ∀ i, i < s.nodes.length → KRow E (i + 1) (s.at i).kids (E i)
  top : ∀ i, i < s.nodes.length → E i ≤ s.nodes.length
  par : ∀ i, ∀ k ∈ (s.at i).kids, par k = i
  ends : ∀ j ∈ s.chain, E j = s.nodes.length
  lt : ∀ j ∈ s.chain, j < s.nodes.length
  inc : s.chain.Pairwise (· < ·)
  head : s.chain.head? = some 0
  link : ∀ (t a b : Nat), s.chain[t]? = some a → s.chain[t + 1]? = some b → (s.at a).kids.getLast? = some b

theorem startP_walked : Walked startP (fun _ => 1) (fun _ => 0) where
  row := by intro i hi; simp [startP] at hi; subst hi; simp [startP, PS.at, KRow]
  top := by intro i hi; simp [startP]
  par := by
    intro i k hk
    cases i with
    | zero => simp [startP, PS.at] at hk
    | succ i => simp [startP, PS.at, default] at hk
  ends := by simp [startP]
  lt := by simp [startP]
  inc := by simp [startP]
  head := rfl
  link := by
    intro t a b h1 h2
    simp [startP] at h2

theorem put_at (s : PS) (d : Nat) (p : LP) (number : Int) (ha : s.above d < s.nodes.length) (i : Nat) : (s.put d p number).at i = if i = s.above d then addKid s.nodes.length (s.at i) else if i = s.nodes.length then newNode p number else s.at i := by
  unfold PS.at PS.put
  simp only [List.getD]
  rcases Nat.lt_trichotomy i s.nodes.length with h | h | h
  · rw [List.getElem?_append_left (by simpa using h), List.getElem?_set]
    by_cases e : s.above d = i
    · subst e; simp [h, PS.at, List.getD]
    · have e' : ¬ i = s.above d := fun x => e x.symm
      have e2 : ¬ i = s.nodes.length := by omega
      simp [e, e', e2]
  · subst h
    have e' : ¬ s.nodes.length = s.above d := by omega
    simp [e']
  · have e' : ¬ i = s.above d := by omega
    have e2 : ¬ i = s.nodes.length := by omega
    rw [List.getElem?_eq_none (by simp; omega), if_neg e', if_neg e2, List.getElem?_eq_none (by omega)]

theorem Walked.put {s : PS} {E par : Nat → Nat} (h : Walked s E par) (d : Nat) (hd : d < s.chain.length) (p : LP) (number : Int) :
    Walked (s.put d p number) (fun j => if j ∈ s.chain.take (d + 1) ∨ j = s.nodes.length then s.nodes.length + 1 else E j) (fun k => if k = s.nodes.length then s.above d else par k) := by
  have hab : s.chain[d]? = some (s.above d) := by
    unfold PS.above; simp [List.getD, List.getElem?_eq_getElem hd]
  have ha : s.above d < s.nodes.length := h.lt _ (List.mem_of_getElem? hab)
  have hin : s.above d ∈ s.chain.take (d + 1) := by
    refine List.mem_of_getElem? (i := d) ?_
    rw [List.getElem?_take, if_pos (by omega)]; exact hab
  have hkid : ∀ i, i < s.nodes.length → ∀ k ∈ (s.at i).kids, i < k ∧ k < s.nodes.length := by
    intro i hi k hk
    have := (h.row i hi).mem k hk
    have := h.top i hi
    omega
  -- the chain's places, from below
  have hmono : ∀ (t u a b : Nat), s.chain[t]? = some a → s.chain[u]? = some b → t < u → a < b := by
    intro t u a b h1 h2 htu
    obtain ⟨h3, rfl⟩ := List.getElem?_eq_some_iff.1 h1
    obtain ⟨h4, rfl⟩ := List.getElem?_eq_some_iff.1 h2
    exact List.pairwise_iff_getElem.1 h.inc t u h3 h4 htu
  -- a kid that stands in the chain's first part has the one before it above itself
  have hup : ∀ i k, i < s.nodes.length → k ∈ (s.at i).kids → k ∈ s.chain.take (d + 1) → ∃ t, t < d ∧ s.chain[t]? = some i ∧ s.chain[t + 1]? = some k := by
    intro i k hi hk hc
    obtain ⟨t, ht⟩ := List.getElem?_of_mem hc
    rw [List.getElem?_take] at ht
    split at ht
    · rename_i htd
      cases t with
      | zero =>
        have := h.head
        rw [List.head?_eq_getElem?, ht] at this
        injection this with this
        have := hkid i hi k hk
        omega
      | succ t =>
        cases hpt : s.chain[t]? with
        | none =>
          rw [List.getElem?_eq_none_iff] at hpt
          rw [List.getElem?_eq_none (by omega)] at ht
          cases ht
        | some a =>
          have hl := h.link t a k hpt ht
          have h1 := h.par a k (List.mem_of_getLast? hl)
          have h2 := h.par i k hk
          rw [h1] at h2
          subst h2
          exact ⟨t, by omega, hpt, ht⟩
    · cases ht
  have hlen : (s.put d p number).nodes.length = s.nodes.length + 1 := by simp [PS.put]
  have hat := put_at s d p number ha
  have hkids : ∀ i, ((s.put d p number).at i).kids = if i = s.above d then (s.at i).kids ++ [s.nodes.length] else if i = s.nodes.length then [] else (s.at i).kids := by
    intro i
    rw [hat i]
    split
    · rfl
    · split <;> rfl
  have hlast : ∀ k, k < s.nodes.length → E k ≠ s.nodes.length → (if k ∈ s.chain.take (d + 1) ∨ k = s.nodes.length then s.nodes.length + 1 else E k) = E k := by
    intro k hk hE
    rw [if_neg]
    rintro (h1 | h1)
    · exact hE (h.ends k (List.mem_of_mem_take h1))
    · omega
  refine ⟨?_, ?_, ?_, ?_, ?_, ?_, ?_, ?_⟩
  · intro i hi
    rw [hlen] at hi
    rw [hkids i]
    by_cases e1 : i = s.above d
    · subst e1
      rw [if_pos rfl]
      have hrow := h.row _ ha
      rw [h.ends _ (List.mem_of_getElem? hab)] at hrow
      have hsame := KRow.same (E' := fun j => if j ∈ s.chain.take (d + 1) ∨ j = s.nodes.length then s.nodes.length + 1 else E j) hrow (fun k hk => by
        have hk2 := hkid _ ha k hk
        rw [if_neg]
        rintro (h1 | h1)
        · obtain ⟨t, ht, h2, _⟩ := hup _ k ha hk h1
          have := hmono t d _ _ h2 hab ht
          omega
        · omega)
      have := hsame.more (by simp)
      simp only [or_true, if_true] at this
      simpa [hin] using this
    · rw [if_neg e1]
      by_cases e2 : i = s.nodes.length
      · subst e2
        simp [KRow]
      · rw [if_neg e2]
        have hi' : i < s.nodes.length := by omega
        have hrow := h.row i hi'
        by_cases hc : i ∈ s.chain.take (d + 1)
        · have hE := h.ends i (List.mem_of_mem_take hc)
          rw [hE] at hrow
          simp only [hc, true_or, if_true]
          obtain ⟨t, ht⟩ := List.getElem?_of_mem hc
          rw [List.getElem?_take] at ht
          split at ht
          · rename_i htd
            have htd' : t < d := by
              rcases Nat.lt_or_ge t d with x | x
              · exact x
              · have : t = d := by omega
                subst this
                rw [hab] at ht
                injection ht with ht
                exact absurd ht.symm e1
            have hn : t + 1 < s.chain.length := by omega
            have hl := h.link t i s.chain[t + 1] ht (List.getElem?_eq_getElem hn)
            have hm : s.chain[t + 1] ∈ s.chain.take (d + 1) := by
              refine List.mem_of_getElem? (i := t + 1) ?_
              rw [List.getElem?_take, if_pos (by omega)]; exact List.getElem?_eq_getElem hn
            refine hrow.last hl hlast (by simp only [hm, true_or, if_true]) ?_
            have := h.lt _ (List.getElem_mem hn)
            omega
          · cases ht
        · have : (if i ∈ s.chain.take (d + 1) ∨ i = s.nodes.length then s.nodes.length + 1 else E i) = E i := by
            rw [if_neg]; rintro (h1 | h1)
            · exact hc h1
            · exact e2 h1
          simp only [this]
          refine hrow.same (fun k hk => ?_)
          have hk2 := hkid i hi' k hk
          rw [if_neg]
          rintro (h1 | h1)
          · obtain ⟨t, ht, h2, _⟩ := hup i k hi' hk h1
            refine hc (List.mem_of_getElem? (i := t) ?_)
            rw [List.getElem?_take, if_pos (by omega)]; exact h2
          · omega
  · intro i hi
    rw [hlen] at hi ⊢
    split
    · exact Nat.le_refl _
    · rename_i hne
      have : i < s.nodes.length := by
        rcases Nat.lt_or_ge i s.nodes.length with x | x
        · exact x
        · exact absurd (.inr (by omega)) hne
      have := h.top i this
      omega
  · intro i k hk
    rw [hkids i] at hk
    split at hk
    · rename_i e1
      simp only [List.mem_append, List.mem_singleton] at hk
      rcases hk with hk | hk
      · subst e1
        have := hkid _ ha k hk
        rw [if_neg (by omega)]
        exact h.par _ k hk
      · rw [if_pos hk]; exact e1.symm
    · split at hk
      · simp at hk
      · have hi : i < s.nodes.length := by
          rcases Nat.lt_or_ge i s.nodes.length with x | x
          · exact x
          · unfold PS.at at hk; rw [getD_ge _ _ _ x] at hk; simp [default] at hk
        have := hkid i hi k hk
        rw [if_neg (by omega)]
        exact h.par i k hk
  · intro j hj
    rw [hlen]
    simp only [PS.put, List.mem_append, List.mem_singleton] at hj
    exact if_pos hj
  · intro j hj
    rw [hlen]
    simp only [PS.put, List.mem_append, List.mem_singleton] at hj
    rcases hj with hj | rfl
    · have := h.lt j (List.mem_of_mem_take hj); omega
    · omega
  · simp only [PS.put]
    rw [List.pairwise_append]
    refine ⟨h.inc.sublist (List.take_sublist _ _), List.pairwise_singleton _ _, ?_⟩
    intro a ha b hb
    simp at hb
    subst hb
    exact h.lt a (List.mem_of_mem_take ha)
  · simp only [PS.put]
    have := h.head
    cases hc : s.chain with
    | nil => rw [hc] at this; simp at this
    | cons x l => rw [hc] at this; simpa using this
  · intro t a b h1 h2
    simp only [PS.put] at h1 h2
    have hl : (s.chain.take (d + 1)).length = d + 1 := by simp; omega
    rw [hkids a]
    rcases Nat.lt_trichotomy t d with x | x | x
    · rw [List.getElem?_append_left (by omega), List.getElem?_take, if_pos (by omega)] at h1 h2
      have := hmono t d _ _ h1 hab x
      have h3 := h.lt a (List.mem_of_getElem? h1)
      rw [if_neg (by omega), if_neg (by omega)]
      exact h.link t a b h1 h2
    · subst x
      rw [List.getElem?_append_left (by omega), List.getElem?_take, if_pos (by omega), hab] at h1
      injection h1 with h1
      subst h1
      rw [List.getElem?_append_right (by omega), hl] at h2
      simp at h2
      subst h2
      rw [if_pos rfl]
      simp
    · rw [List.getElem?_eq_none (by simp; omega)] at h2
      cases h2

theorem Walked.add {s : PS} {E par : Nat → Nat} (h : Walked s E par) (l : Bs) (n : Int) : ∃ E' par', Walked (s.add l n).1 E' par' := by
  unfold PS.add
  split
  · exact ⟨E, par, h⟩
  · split
    · exact ⟨E, par, h⟩
    · split
      · exact ⟨E, par, h⟩
      · rename_i h2
        dsimp only
        split
        · exact ⟨E, par, h⟩
        · refine ⟨_, _, h.put _ ?_ _ _⟩
          have : s.fits ((l.length - (trimB l).length) / 2) = true := by
            rcases Bool.eq_false_or_eq_true (s.fits ((l.length - (trimB l).length) / 2)) with x | x
            · exact x
            · exact absurd (.inr x) h2
          exact PS.fits_lt this
theorem upTo_walked (ls : List Bs) : ∀ k, ∃ E par, Walked (upTo ls k) E par
  | 0 => ⟨_, _, startP_walked⟩
  | k + 1 => by
    obtain ⟨E, par, h⟩ := upTo_walked ls k
    exact h.add _ _

/- declarations' numbers -/
def InR (d : Int) : Prop := 0 ≤ d ∧ d < 2000
def PE.In : PE → Prop
  | .nil => True
  | .num _ => True
  | .var _ d => InR d
  | .pair _ a b => a.In ∧ b.In
structure NIn (n : PNode) : Prop where
  nd : InR n.nd
  cd : InR n.cd
  expr : n.expr.In
theorem zeroR : InR 0 := by unfold InR; omega
theorem NIn.dflt : NIn default := ⟨zeroR, zeroR, trivial⟩

theorem fromF_in {f : RS → PE × RS} (hf : ∀ σ, (f σ).1.In) (p : PE × RS) (hp : p.1.In) : (fromF f p).1.In := by
  unfold fromF; split
  · exact ⟨hp, hf _⟩
  · exact hp
theorem leafF_in (σ : RS) : (leafF σ).1.In := by
  unfold leafF; split
  · trivial
  · exact zeroR
theorem operandF_in : ∀ (n : Nat) (σ : RS), (operandF n σ).1.In
  | 0, σ => by
    unfold operandF; split
    · trivial
    · exact leafF_in σ
  | n + 1, σ => by
    unfold operandF; split
    · exact fromF_in (operandF_in n) _ (operandF_in n _)
    · exact leafF_in σ
theorem exprF_in (n : Nat) (σ : RS) : (exprF n σ).1.In := fromF_in (operandF_in n) _ (operandF_in n _)
theorem guardedF_in (g : PE) (σ : RS) (h : g.In) : (guardedF g σ).1.expr.In := h
theorem readF_in (k : Int) (ch : Bs) (σ : RS) : (readF k ch σ).1.expr.In := trivial
theorem writeF_in (ch : Bs) (σ : RS) : (writeF ch σ).1.expr.In := exprF_in _ _
theorem onNameF_in (nm : Bs) (σ : RS) : (onNameF nm σ).1.expr.In := by
  unfold onNameF; split
  · exact exprF_in _ _
  · split
    · exact writeF_in _ _
    · exact readF_in _ _ _
theorem branchF_in (σ : RS) : (branchF σ).1.expr.In := by
  unfold branchF; split
  · exact readF_in _ _ _
  · split
    · exact guardedF_in _ _ (exprF_in _ _)
    · split
      · exact readF_in _ _ _
      · exact guardedF_in _ _ (fromF_in (operandF_in _) _ zeroR)
theorem ite_in {c : Prop} [Decidable c] {a b : LP × RS} (ha : a.1.expr.In) (hb : b.1.expr.In) : (if c then a else b).1.expr.In := by
  split
  · exact ha
  · exact hb
theorem processF_in (σ : RS) : (processF σ).1.expr.In :=
  ite_in trivial (ite_in trivial (ite_in trivial (ite_in trivial (ite_in trivial (ite_in trivial (ite_in trivial (ite_in (exprF_in _ _) (ite_in (exprF_in _ _) (ite_in trivial (ite_in trivial (ite_in (readF_in _ _ _) (ite_in (writeF_in _ _) (onNameF_in _ _)))))))))))))
theorem lineF_in (above : Int) (σ : RS) : (lineF above σ).1.expr.In := by
  unfold lineF; split
  · exact exprF_in _ _
  · split
    · exact branchF_in _
    · exact processF_in _
theorem readLineF_in (body : Bs) (above : Int) : (readLineF body above).1.expr.In := lineF_in _ _

theorem upTo_in (ls : List Bs) : ∀ k, ∀ n ∈ (upTo ls k).nodes, NIn n
  | 0 => by
    intro n hn
    simp [upTo, startP] at hn
    subst hn
    exact ⟨zeroR, zeroR, trivial⟩
  | k + 1 => by
    have ih := upTo_in ls k
    show ∀ n ∈ ((upTo ls k).add _ _).1.nodes, NIn n
    generalize upTo ls k = s at ih
    unfold PS.add
    split
    · exact ih
    · split
      · exact ih
      · split
        · exact ih
        · dsimp only
          split
          · exact ih
          · intro n hn
            simp only [PS.put, List.mem_append, List.mem_singleton] at hn
            rcases hn with hn | rfl
            · rcases List.mem_or_eq_of_mem_set hn with hn | rfl
              · exact ih n hn
              · have : NIn (s.at (s.above ((List.length (ls.getD k []) - List.length (trimB (ls.getD k []))) / 2))) := by
                  generalize s.above _ = j
                  unfold PS.at
                  rcases Nat.lt_or_ge j s.nodes.length with x | x
                  · rw [getD_lt _ _ _ x]; exact ih _ (List.getElem_mem x)
                  · rw [getD_ge _ _ _ x]; exact NIn.dflt
                exact ⟨this.nd, this.cd, this.expr⟩
            · exact ⟨zeroR, zeroR, readLineF_in _ _⟩

/-- what the walk of names keeps to -/
structure StIn (st : RV × List PNode) : Prop where
  nodes : ∀ i, NIn (st.2.getD i default)
  hold : ∀ d ∈ st.1.hold, InR d.num
  next : 0 ≤ st.1.next

theorem nearestF_in : ∀ (l : List DC) (t : Bs), (∀ d ∈ l, InR d.num) → InR (nearestF l t).num
  | [], _, _ => zeroR
  | d :: l, t, h => by
    unfold nearestF
    split
    · exact nearestF_in l t (fun x hx => h x (by simp [hx]))
    · split
      · exact h d (by simp)
      · exact zeroR
theorem resolveF_in (r : RV) (t : Bs) (old must line : Int) (h : ∀ d ∈ r.hold, InR d.num) (ho : InR old) : InR (resolveF r t old must line).2 ∧ (resolveF r t old must line).1.hold = r.hold ∧ (resolveF r t old must line).1.next = r.next := by
  unfold resolveF; split
  · exact ⟨nearestF_in _ _ h, rfl, rfl⟩
  · exact ⟨ho, rfl, rfl⟩
theorem eachF_in (line : Int) : ∀ (e : PE) (r : RV), (∀ d ∈ r.hold, InR d.num) → e.In → (eachF line r e).2.In ∧ (eachF line r e).1.hold = r.hold ∧ (eachF line r e).1.next = r.next
  | .nil, _, _, _ => ⟨trivial, rfl, rfl⟩
  | .num _, _, _, _ => ⟨trivial, rfl, rfl⟩
  | .var n d, r, h, he => resolveF_in r n d 15 line h he
  | .pair op a b, r, h, he => by
    have h1 := eachF_in line a r h he.1
    have h2 := eachF_in line b (eachF line r a).1 (by rw [h1.2.1]; exact h) he.2
    exact ⟨⟨h1.1, h2.1⟩, h2.2.1.trans h1.2.1, h2.2.2.trans h1.2.2⟩
theorem nameOf_in (r : RV) (n : PNode) (h : ∀ d ∈ r.hold, InR d.num) (hn : NIn n) : NIn (nameOf r n).2 ∧ (nameOf r n).1.hold = r.hold ∧ (nameOf r n).1.next = r.next :=
  have k := resolveF_in r n.name n.nd 15 n.line h hn.nd
  ⟨⟨k.1, hn.cd, hn.expr⟩, k.2⟩
theorem chanOf_in (r : RV) (n : PNode) (h : ∀ d ∈ r.hold, InR d.num) (hn : NIn n) : NIn (chanOf r n).2 ∧ (chanOf r n).1.hold = r.hold ∧ (chanOf r n).1.next = r.next :=
  have k := resolveF_in r n.chan n.cd 16 n.line h hn.cd
  ⟨⟨hn.nd, k.1, hn.expr⟩, k.2⟩
theorem headOf_in (r : RV) (n : PNode) (h : ∀ d ∈ r.hold, InR d.num) (hn : NIn n) : NIn (headOf r n).2 ∧ (headOf r n).1.hold = r.hold ∧ (headOf r n).1.next = r.next := by
  unfold headOf; split
  · exact nameOf_in r n h hn
  · split
    · exact chanOf_in r n h hn
    · split
      · have h1 := chanOf_in r n h hn
        have h2 := nameOf_in (chanOf r n).1 (chanOf r n).2 (by rw [h1.2.1]; exact h) h1.1
        exact ⟨h2.1, h2.2.1.trans h1.2.1, h2.2.2.trans h1.2.2⟩
      · exact ⟨hn, rfl, rfl⟩
theorem exprOf_in (r : RV) (n : PNode) (h : ∀ d ∈ r.hold, InR d.num) (hn : NIn n) : NIn (exprOf r n).2 ∧ (exprOf r n).1.hold = r.hold ∧ (exprOf r n).1.next = r.next :=
  have k := eachF_in n.line n.expr r h hn.expr
  ⟨⟨hn.nd, hn.cd, k.1⟩, k.2⟩

theorem set_in {ns : List PNode} (h : ∀ i, NIn (ns.getD i default)) (i : Nat) (n : PNode) (hn : NIn n) (j : Nat) : NIn ((ns.set i n).getD j default) := by
  simp only [List.getD, List.getElem?_set]
  split
  · split
    · exact hn
    · exact NIn.dflt
  · exact h j

theorem nameF_in (ns : List PNode) (E : Nat → Nat) (hrow : ∀ i, i < ns.length → KRow E (i + 1) (ns.getD i default).kids (E i)) (htop : ∀ i, i < ns.length → E i ≤ ns.length) :
    ∀ (f : Nat) (st : RV × List PNode) (i : Nat), SameShape ns st.2 → i < ns.length → StIn st → st.1.next + ((E i : Int) - (i : Int)) ≤ 2000 → StIn (nameF f st i) ∧ (nameF f st i).1.next ≤ st.1.next + ((E i : Int) - (i : Int))
  | 0, st, i, _, hi, h, _ => by
    have := (hrow i hi).le
    exact ⟨h, by show st.1.next ≤ _; omega⟩
  | f + 1, st, i, hsh, hi, h, hlim => by
    have hE := (hrow i hi).le
    have key : ∀ (l : List Nat) (a e : Nat) (x : RV × List PNode), KRow E a l e → e ≤ ns.length → SameShape ns x.2 → StIn x → x.1.next + ((e : Int) - (a : Int)) ≤ 2000 → StIn (l.foldl (nameF f) x) ∧ (l.foldl (nameF f) x).1.next ≤ x.1.next + ((e : Int) - (a : Int)) := by
      intro l
      induction l with
      | nil =>
        intro a e x hr _ _ hx _
        have hr : a = e := hr
        exact ⟨hx, by show x.1.next ≤ _; omega⟩
      | cons k l ih =>
        intro a e x hr he hs hx hb
        obtain ⟨h1, h2, h3⟩ := hr
        have h4 := h3.le
        have hk : k < ns.length := by omega
        have g := nameF_in ns E hrow htop f x k hs hk hx (by omega)
        have g2 := ih (E k) e (nameF f x k) h3 he (hs.trans (nameF_keep f x k).1) g.1 (by omega)
        refine ⟨g2.1, ?_⟩
        have := g2.2
        rw [List.foldl_cons]
        omega
    have hkids : (st.2.getD i default).kids = (ns.getD i default).kids := hsh.kids i
    have hr := hrow i hi
    rw [← hkids] at hr
    have ht := htop i hi
    unfold nameF
    dsimp only
    split
    · have hw : wrap64 (st.1.next + 1) = st.1.next + 1 := IntWalk.wrap64_in _ (by have := h.next; omega)
      have g := key _ (i + 1) (E i) (pushF st.1 (st.2.getD i default), st.2.set i { st.2.getD i default with nd := st.1.next }) hr ht
        (hsh.trans (SameShape.set st.2 i { st.2.getD i default with nd := st.1.next } rfl rfl))
        ⟨set_in h.nodes i _ ⟨⟨h.next, by show st.1.next < 2000; omega⟩, (h.nodes i).cd, (h.nodes i).expr⟩, by
          intro d hd
          simp only [pushF, List.mem_append, List.mem_singleton] at hd
          rcases hd with hd | rfl
          · exact h.hold d hd
          · exact ⟨h.next, by show st.1.next < 2000; omega⟩, by
          show 0 ≤ wrap64 (st.1.next + 1)
          rw [hw]; have := h.next; omega⟩
        (by show wrap64 (st.1.next + 1) + _ ≤ _; rw [hw]; omega)
      generalize List.foldl (nameF f) _ _ = q at g ⊢
      refine ⟨⟨g.1.nodes, fun d hd => g.1.hold d (List.dropLast_subset _ hd), g.1.next⟩, ?_⟩
      have g2 : q.1.next ≤ wrap64 (st.1.next + 1) + ((E i : Int) - ((i + 1 : Nat) : Int)) := g.2
      rw [hw] at g2
      show q.1.next ≤ _
      omega
    · have h1 := headOf_in st.1 (st.2.getD i default) h.hold (h.nodes i)
      have h2 := exprOf_in (headOf st.1 (st.2.getD i default)).1 (headOf st.1 (st.2.getD i default)).2 (by rw [h1.2.1]; exact h.hold) h1.1
      have hh := headOf_same st.1 (st.2.getD i default)
      have hnx : (exprOf (headOf st.1 (st.2.getD i default)).1 (headOf st.1 (st.2.getD i default)).2).1.next = st.1.next := h2.2.2.trans h1.2.2
      have g := key _ (i + 1) (E i) ((exprOf (headOf st.1 (st.2.getD i default)).1 (headOf st.1 (st.2.getD i default)).2).1, st.2.set i (exprOf (headOf st.1 (st.2.getD i default)).1 (headOf st.1 (st.2.getD i default)).2).2) hr ht
        (hsh.trans (SameShape.set st.2 i _ hh.1 hh.2.1))
        ⟨set_in h.nodes i _ h2.1, by
          show ∀ d ∈ (exprOf _ _).1.hold, InR d.num
          rw [h2.2.1, h1.2.1]; exact h.hold, by
          show 0 ≤ (exprOf _ _).1.next
          rw [hnx]; exact h.next⟩
        (by show (exprOf _ _).1.next + _ ≤ _; rw [hnx]; omega)
      generalize List.foldl (nameF f) _ _ = q at g ⊢
      refine ⟨g.1, ?_⟩
      have g2 : q.1.next ≤ (exprOf (headOf st.1 (st.2.getD i default)).1 (headOf st.1 (st.2.getD i default)).2).1.next + ((E i : Int) - ((i + 1 : Nat) : Int)) := g.2
      rw [hnx] at g2
      omega

theorem asks_in : ∀ e : PE, e.In → UseOk (asks e)
  | .nil, _ => by intro p hp; simp [asks] at hp
  | .num _, _ => by intro p hp; simp [asks] at hp
  | .var n d, h => by intro p hp; simp [asks] at hp; subst hp; exact ⟨h, by show (2 : Nat) < 16; decide⟩
  | .pair op a b, h => (asks_in a h.1).append (asks_in b h.2)
theorem ownU_in (n : PNode) (h : NIn n) : UseOk (ownU n) := by
  refine UseOk.append ?_ (asks_in _ h.expr)
  unfold headU
  intro p hp
  split at hp
  · simp at hp; subst hp; exact ⟨h.nd, by show (1 : Nat) < 16; decide⟩
  · split at hp
    · simp at hp; subst hp; exact ⟨h.cd, by show (4 : Nat) < 16; decide⟩
    · split at hp
      · simp at hp
        rcases hp with rfl | rfl
        · exact ⟨h.cd, by show (8 : Nat) < 16; decide⟩
        · exact ⟨h.nd, by show (1 : Nat) < 16; decide⟩
      · simp at hp

theorem splitK_len (sep : Bs) (save : Nat) (hs : sep.length = 1) (h0 : Lib.index [] sep = -1) : ∀ (k : Nat) (s : Bs), (Lib.splitK sep save k s).length ≤ s.length + 1
  | 0, s => by simp [Lib.splitK]
  | k + 1, s => by
    unfold Lib.splitK
    split
    · simp
    · rename_i h
      have ih := splitK_len sep save hs h0 k (s.drop ((Lib.index s sep).toNat + sep.length))
      cases s with
      | nil => rw [h0] at h; simp at h
      | cons c s =>
        simp only [List.length_cons, List.length_drop] at ih ⊢
        omega
theorem linesF_len (text : Bs) : (linesF text).length ≤ text.length + 1 := splitK_len _ _ rfl (by decide) _ _
end Go.Proofs.YtijcgaebpplngaaGreatDoor
