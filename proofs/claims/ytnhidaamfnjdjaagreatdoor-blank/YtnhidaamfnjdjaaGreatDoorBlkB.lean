import Derived.Test.YtnhidaamfnjdjaaGreatDoorGoodB
import Derived.Test.YtnhidaamfnjdjaaGreatDoorGoodA
/- WHAT IS ERASED TURNS NOTHING: names and what is shared. Nothing of the dump. -/
namespace Go.Proofs.YtnhidaamfnjdjaaGreatDoor
open Go.RowKit

structure RRel (r r' : RV) : Prop where
  hold : r'.hold = r.hold
  next : r'.next = r.next
  line : r.line = 0 ↔ r'.line = 0
theorem RRel.refl (r : RV) : RRel r r := ⟨rfl, rfl, Iff.rfl⟩

theorem resolveF_rel {r r' : RV} (h : RRel r r') (t : Bs) (old must line line' : Int) (h1 : line ≠ 0) (h2 : line' ≠ 0) : RRel (resolveF r t old must line).1 (resolveF r' t old must line').1 ∧ (resolveF r' t old must line').2 = (resolveF r t old must line).2 := by
  unfold resolveF
  rw [h.hold]
  split
  · exact ⟨h, rfl⟩
  · refine ⟨⟨rfl, h.next, ?_⟩, rfl⟩
    show (if r.line = 0 then line else r.line) = 0 ↔ (if r'.line = 0 then line' else r'.line) = 0
    by_cases e : r.line = 0
    · rw [if_pos e, if_pos (h.line.1 e)]; exact ⟨fun x => absurd x h1, fun x => absurd x h2⟩
    · have e' : ¬ r'.line = 0 := fun x => e (h.line.2 x)
      rw [if_neg e, if_neg e']; exact h.line

theorem eachF_rel (line line' : Int) (h1 : line ≠ 0) (h2 : line' ≠ 0) : ∀ (e : PE) (r r' : RV), RRel r r' → RRel (eachF line r e).1 (eachF line' r' e.er).1 ∧ (eachF line' r' e.er).2 = (eachF line r e).2.er
  | .nil, r, r', h => ⟨h, rfl⟩
  | .num _, r, r', h => ⟨h, rfl⟩
  | .var n d, r, r', h => by
    have k := resolveF_rel h n d 15 line line' h1 h2
    refine ⟨k.1, ?_⟩
    show PE.var n (resolveF r' n d 15 line').2 = PE.var n (resolveF r n d 15 line).2
    rw [k.2]
  | .pair op a b, r, r', h => by
    have k1 := eachF_rel line line' h1 h2 a r r' h
    have k2 := eachF_rel line line' h1 h2 b _ _ k1.1
    refine ⟨k2.1, ?_⟩
    show PE.pair op (eachF line' r' a.er).2 (eachF line' (eachF line' r' a.er).1 b.er).2 = PE.pair op (eachF line r a).2.er (eachF line (eachF line r a).1 b).2.er
    rw [k1.2, k2.2]

theorem nameOf_rel {r r' : RV} (h : RRel r r') (n : PNode) (hn : n.line ≠ 0) : RRel (nameOf r n).1 (nameOf r' n.er).1 ∧ (nameOf r' n.er).2 = (nameOf r n).2.er := by
  have k := resolveF_rel h n.name n.nd 15 n.line 1 hn (by decide)
  refine ⟨k.1, ?_⟩
  show ({ n.er with nd := (resolveF r' n.name n.nd 15 1).2 } : PNode) = _
  rw [k.2]; rfl
theorem chanOf_rel {r r' : RV} (h : RRel r r') (n : PNode) (hn : n.line ≠ 0) : RRel (chanOf r n).1 (chanOf r' n.er).1 ∧ (chanOf r' n.er).2 = (chanOf r n).2.er := by
  have k := resolveF_rel h n.chan n.cd 16 n.line 1 hn (by decide)
  refine ⟨k.1, ?_⟩
  show ({ n.er with cd := (resolveF r' n.chan n.cd 16 1).2 } : PNode) = _
  rw [k.2]; rfl
theorem headOf_rel {r r' : RV} (h : RRel r r') (n : PNode) (hn : n.line ≠ 0) : RRel (headOf r n).1 (headOf r' n.er).1 ∧ (headOf r' n.er).2 = (headOf r n).2.er := by
  have e : n.er.kind = n.kind := rfl
  unfold headOf
  rw [e]
  split
  · exact nameOf_rel h n hn
  · split
    · exact chanOf_rel h n hn
    · split
      · have k := chanOf_rel h n hn
        have k2 := nameOf_rel k.1 (chanOf r n).2 hn
        rw [k.2]
        exact k2
      · exact ⟨h, rfl⟩
theorem exprOf_rel {r r' : RV} (h : RRel r r') (n : PNode) (hn : n.line ≠ 0) : RRel (exprOf r n).1 (exprOf r' n.er).1 ∧ (exprOf r' n.er).2 = (exprOf r n).2.er := by
  have k := eachF_rel n.line 1 hn (by decide) n.expr r r' h
  refine ⟨k.1, ?_⟩
  show ({ n.er with expr := (eachF 1 r' n.expr.er).2 } : PNode) = _
  rw [k.2]; rfl

/-- each line but the whole has a number -/
def LOk (ns : List PNode) : Prop := ∀ j, 0 < j → j < ns.length → (ns.getD j default).line ≠ 0
theorem LOk.set {ns : List PNode} (h : LOk ns) (i : Nat) (n : PNode) (hn : n.line ≠ 0) : LOk (ns.set i n) := by
  intro j h0 hj
  rw [List.length_set] at hj
  simp only [List.getD, List.getElem?_set]
  have := h j h0 hj
  simp only [List.getD] at this
  split
  · rename_i e; subst e; rw [if_pos hj]; exact hn
  · exact this

structure SRel (st st' : RV × List PNode) : Prop where
  r : RRel st.1 st'.1
  ns : st'.2 = st.2.map PNode.er
  lines : LOk st.2
  up : Up st.2

theorem nameF_rel : ∀ (f : Nat) (st st' : RV × List PNode) (i : Nat), SRel st st' → 0 < i → i < st.2.length → SRel (nameF f st i) (nameF f st' i) ∧ (nameF f st i).2.length = st.2.length
  | 0, st, st', i, h, _, _ => ⟨h, rfl⟩
  | f + 1, st, st', i, h, h0, hi => by
    have key : ∀ (l : List Nat) (x x' : RV × List PNode), SRel x x' → (∀ k ∈ l, 0 < k ∧ k < x.2.length) → SRel (l.foldl (nameF f) x) (l.foldl (nameF f) x') ∧ (l.foldl (nameF f) x).2.length = x.2.length := by
      intro l
      induction l with
      | nil => intro x x' hx _; exact ⟨hx, rfl⟩
      | cons k l ih =>
        intro x x' hx hl
        have g := nameF_rel f x x' k hx (hl k (by simp)).1 (hl k (by simp)).2
        have g2 := ih (nameF f x k) (nameF f x' k) g.1 (fun j hj => by rw [g.2]; exact hl j (by simp [hj]))
        exact ⟨g2.1, g2.2.trans g.2⟩
    have hn' : st'.2.getD i default = (st.2.getD i default).er := by rw [h.ns]; exact er_at _ _ hi
    have hkin : ∀ k ∈ (st.2.getD i default).kids, 0 < k ∧ k < st.2.length := fun k hk => by have := h.up i k hk; omega
    have hline := h.lines i h0 hi
    generalize hN : st.2.getD i default = n at *
    have hkids : n.er.kids = n.kids := rfl
    have hkind : n.er.kind = n.kind := rfl
    unfold nameF
    simp only [hn', hN, hkids, hkind]
    split
    · have hsh := SameShape.set st.2 i { n with nd := st.1.next } (by rw [hN]) (by rw [hN])
      have g := key n.kids (pushF st.1 n, st.2.set i { n with nd := st.1.next }) (pushF st'.1 n.er, st'.2.set i { n.er with nd := st'.1.next }) ⟨⟨by
          show st'.1.hold ++ [⟨n.name, n.kind, st'.1.next⟩] = st.1.hold ++ [⟨n.name, n.kind, st.1.next⟩]
          rw [h.r.hold, h.r.next], by
          show wrap64 (st'.1.next + 1) = wrap64 (st.1.next + 1)
          rw [h.r.next], h.r.line⟩, by
          show st'.2.set i _ = (st.2.set i _).map PNode.er
          rw [List.map_set, h.ns, h.r.next]; rfl, h.lines.set i _ hline, h.up.shape hsh⟩ (fun k hk => by
          have := hkin k hk
          rw [List.length_set]; exact this)
      refine ⟨⟨⟨?_, g.1.r.next, g.1.r.line⟩, g.1.ns, g.1.lines, g.1.up⟩, by rw [g.2, List.length_set]⟩
      exact congrArg List.dropLast g.1.r.hold
    · have k1 := headOf_rel h.r n hline
      have hh := headOf_same st.1 n
      have k2 := exprOf_rel k1.1 (headOf st.1 n).2 (by rw [hh.2.2.2.1]; exact hline)
      rw [k1.2]
      have hsh := SameShape.set st.2 i (exprOf (headOf st.1 n).1 (headOf st.1 n).2).2 (by rw [hN]; exact hh.1) (by rw [hN]; exact hh.2.1)
      have g := key n.kids ((exprOf (headOf st.1 n).1 (headOf st.1 n).2).1, st.2.set i (exprOf (headOf st.1 n).1 (headOf st.1 n).2).2) ((exprOf (headOf st'.1 n.er).1 (headOf st.1 n).2.er).1, st'.2.set i (exprOf (headOf st'.1 n.er).1 (headOf st.1 n).2.er).2) ⟨k2.1, by
          show st'.2.set i _ = (st.2.set i _).map PNode.er
          rw [List.map_set, h.ns, k2.2], h.lines.set i _ (by show (headOf st.1 n).2.line ≠ 0; rw [hh.2.2.2.1]; exact hline), h.up.shape hsh⟩ (fun k hk => by
          have := hkin k hk
          rw [List.length_set]; exact this)
      exact ⟨g.1, by rw [g.2, List.length_set]⟩

theorem asks_er : ∀ e : PE, asks e.er = asks e
  | .nil => rfl
  | .num _ => rfl
  | .var _ _ => rfl
  | .pair _ a b => by show asks a.er ++ asks b.er = asks a ++ asks b; rw [asks_er a, asks_er b]
theorem ownU_er (n : PNode) : ownU n.er = ownU n := by
  show headU n ++ asks n.expr.er = headU n ++ asks n.expr
  rw [asks_er]
theorem foundF_ne (s line : Int) (h : line ≠ 0) : foundF s line ≠ 0 := by
  unfold foundF; split
  · exact h
  · rename_i h1; exact fun e => h1 (.inl e)

theorem shareF_rel (ns : List PNode) (hl : LOk ns) (hup : Up ns) : ∀ (f : Nat) (s s' : Int) (i : Nat), (s = 0 ↔ s' = 0) → 0 < i → i < ns.length →
    (shareF (ns.map PNode.er) f s' i).1 = (shareF ns f s i).1 ∧ ((shareF ns f s i).2 = 0 ↔ (shareF (ns.map PNode.er) f s' i).2 = 0)
  | 0, s, s', i, h, _, _ => ⟨rfl, h⟩
  | f + 1, s, s', i, h, h0, hi => by
    have key : ∀ (l : List Nat) (a a' : List (List (Int × Nat)) × Int), a'.1 = a.1 → (a.2 = 0 ↔ a'.2 = 0) → (∀ k ∈ l, 0 < k ∧ k < ns.length) → (l.foldl (stepS (ns.map PNode.er) f) a').1 = (l.foldl (stepS ns f) a).1 ∧ ((l.foldl (stepS ns f) a).2 = 0 ↔ (l.foldl (stepS (ns.map PNode.er) f) a').2 = 0) := by
      intro l
      induction l with
      | nil => intro a a' h1 h2 _; exact ⟨h1, h2⟩
      | cons k l ih =>
        intro a a' h1 h2 h3
        have g := shareF_rel ns hl hup f a.2 a'.2 k h2 (h3 k (by simp)).1 (h3 k (by simp)).2
        refine ih (stepS ns f a k) (stepS (ns.map PNode.er) f a' k) ?_ g.2 (fun j hj => h3 j (by simp [hj]))
        show a'.1 ++ [_] = a.1 ++ [_]
        rw [h1, g.1]
    rw [shareF_succ, shareF_succ, er_at ns i hi]
    have hkids : (ns.getD i default).er.kids = (ns.getD i default).kids := rfl
    rw [hkids]
    have g := key (ns.getD i default).kids ([], s) ([], s') rfl h (fun k hk => by have := hup i k hk; omega)
    have hline := hl i h0 hi
    generalize ns.getD i default = n at *
    unfold restS
    refine ⟨?_, ?_⟩
    · show ownU n.er ++ _ = ownU n ++ _
      rw [ownU_er, g.1]
    · have e1 : n.er.kind = n.kind := rfl
      have e2 : n.er.line = 1 := rfl
      simp only [e1, e2, g.1]
      by_cases hc : (n.kind = 8 ∨ n.kind = 9) ∧ anyTwo (List.foldl (stepS ns f) ([], s) n.kids).1 = true
      · rw [if_pos hc, if_pos hc]
        exact ⟨fun x => absurd x (foundF_ne _ _ hline), fun x => absurd x (foundF_ne _ 1 (by decide))⟩
      · rw [if_neg hc, if_neg hc]
        exact g.2

/-- a table that names and shares alike -/
def calmB (s : PS) : Bool := decide ((namedF s).1.line = 0) && decide ((shareF (namedF s).2 (namedF s).2.length 0 (rootOf s)).2 = 0)

theorem calm_er (s : PS) (hl : LOk s.nodes) (hup : Up s.nodes) (hr : 0 < rootOf s ∧ rootOf s < s.nodes.length) (h : calmB s.er = true) : (namedF s).1.line = 0 ∧ (shareF (namedF s).2 (namedF s).2.length 0 (rootOf s)).2 = 0 := by
  simp only [calmB, Bool.and_eq_true, decide_eq_true_eq] at h
  have e1 : rootOf s.er = rootOf s := by unfold rootOf; rw [(er_atk s 0).1]
  have e2 : s.er.nodes.length = s.nodes.length := by simp [PS.er]
  have g := nameF_rel s.nodes.length (startR, s.nodes) (startR, s.er.nodes) (rootOf s) ⟨RRel.refl _, rfl, hl, hup⟩ hr.1 hr.2
  have e3 : namedF s.er = nameF s.nodes.length (startR, s.er.nodes) (rootOf s) := by unfold namedF; rw [e1, e2]
  rw [e3] at h
  have e4 : nameF s.nodes.length (startR, s.nodes) (rootOf s) = namedF s := rfl
  rw [e4] at g
  refine ⟨g.1.r.line.2 h.1, ?_⟩
  have h2 := h.2
  rw [g.1.ns, e1, List.length_map] at h2
  exact (shareF_rel (namedF s).2 g.1.lines g.1.up (namedF s).2.length 0 0 (rootOf s) Iff.rfl hr.1 (by rw [g.2]; exact hr.2)).2.2 h2

/-- lines of a shape that is fine: written so or so, the text is right; and one of them spoilt is wrong there -/
theorem lay_check (xs : List Item) (hx : ∀ x ∈ xs, x.Ok) (t : PS) (hr : runE startP.er (xs.map fun x => (x.d, x.p.er)) = some t) (hc : t.complete 0 = true) (hm : calmB t = true) (bad put b : Nat) (hlen : (flatL (lay bad put b 0 xs)).length ≤ 800) :
    checkF (flatL (lay bad put b 0 xs)) = if bad < xs.length then (2, (bad : Int) + 1 + (if put ≤ bad then 1 else 0)) else (0, 0) := by
  have hnl : ∀ (ys : List Item) (i : Nat), (∀ y ∈ ys, y.Ok) → ∀ l ∈ lay bad put b i ys, (10 : UInt8) ∉ l := by
    intro ys
    induction ys with
    | nil => intro i _ l hl; simp [lay] at hl
    | cons y ys ih =>
      intro i hy l hl
      unfold lay at hl
      rw [List.mem_append, List.mem_cons] at hl
      have h32 : ∀ n, (10 : UInt8) ∉ List.replicate n (32 : UInt8) := by
        intro n h; rw [List.mem_replicate] at h; exact absurd h.2 (by decide)
      rcases hl with hl | rfl | hl
      · split at hl
        · simp only [List.mem_singleton] at hl; subst hl; exact h32 _
        · simp at hl
      · have h1 := (hy y (by simp)).nl
        have h2 : (10 : UInt8) ∉ wrB bad i := by unfold wrB; split <;> decide
        have h3 : (10 : UInt8) ∉ tlB b i := by unfold tlB; split <;> decide
        simp only [List.mem_append, not_or]
        exact ⟨h32 _, ⟨h1, h2⟩, h3⟩
      · exact ih (i + 1) (fun z hz => hy z (by simp [hz])) l hl
  have hls := linesF_flat _ (hnl xs 0 hx)
  have hn0 : Numd startP := ⟨by decide, fun j h0 hj => by simp [startP] at hj; omega⟩
  have hgo := goL_append (lay bad put b 0 xs) [[]] startP 0
  have hend : ∀ (s : PS) (n : Nat), goL s n [[]] = .ok s := by
    intro s n
    have := goL_blank s n 0 []
    exact this
  unfold checkF
  rw [parseF_go _ hlen, hls, hgo]
  by_cases hb : bad < xs.length
  · have g := go_wrong bad put b xs 0 startP 0 t hx startP_ok hn0 hr (by omega) (by omega)
    rw [g, if_pos hb]
    show ((2 : Int), _) = _
    congr 1
    by_cases hp : put ≤ bad
    · rw [if_pos ⟨by omega, hp⟩, if_pos hp]; simp
    · rw [if_neg (by omega), if_neg hp]; simp
  · obtain ⟨s, g, he, hnm⟩ := go_lay bad put b xs 0 startP 0 t hx startP_ok hn0 hr (by omega)
    have hup : s = upTo (lay bad put b 0 xs) (lay bad put b 0 xs).length := goL_ok _ _ g
    rw [g, if_neg hb]
    simp only [hend]
    have hcs : s.complete 0 = true := by rw [← er_complete, he]; exact hc
    rw [if_pos hcs]
    simp only
    have hrt : 0 < rootOf s ∧ rootOf s < s.nodes.length ∧ Up s.nodes := by
      obtain ⟨E, par, hw⟩ := upTo_walked (lay bad put b 0 xs) (lay bad put b 0 xs).length
      rw [hup] at hcs
      have h0 := (root_lt _ _ hcs).1
      rw [← hup] at hw h0
      exact ⟨(root_in hw h0).1, (root_in hw h0).2, hw.up⟩
    have hcalm := calm_er s hnm.2 hrt.2.2 ⟨hrt.1, hrt.2.1⟩ (by rw [he]; exact hm)
    rw [if_neg (by simpa using hcalm.1), if_neg (by simpa using hcalm.2)]
end Go.Proofs.YtnhidaamfnjdjaaGreatDoor
