import Derived.Test.YtnhidaamfnjdjaaGreatDoorRhY
namespace Go.Proofs.YtnhidaamfnjdjaaGreatDoor
open Go.RowKit Go.Maps

theorem kind_decls : ∀ W ∈ kindsW, (kindOf W = 15 ↔ W = wVar) ∧ (kindOf W = 16 ↔ W = wChan) := by decide +kernel
theorem rnames_nonneg {ns : List PNode} (hp : ∀ i, 0 ≤ (ns.getD i default).line) : ∀ (f : Nat) (l : List RDc) (i : Nat), 0 ≤ rnamesF ns f l i
  | 0, _, _ => Int.le_refl _
  | f + 1, l, i => by
    unfold rnamesF
    split
    · have key : ∀ (ks : List Nat) (a : Int), 0 ≤ a → 0 ≤ ks.foldl (fun a k => if a ≠ 0 then a else rnamesF ns f (rdecls l (ns.getD i default) i) k) a := by
        intro ks
        induction ks with
        | nil => intro a ha; exact ha
        | cons k ks ih =>
          intro a ha
          rw [List.foldl_cons]
          refine ih _ ?_
          split
          · exact ha
          · exact rnames_nonneg hp f _ k
      exact key _ 0 (Int.le_refl _)
    · exact hp i
theorem firstN_map (R : Nat → Int) (ks : List Nat) : (ks.map (· + 1)).foldl (fun a k => if a ≠ 0 then a else R k) 0 = firstN (fun k => R (k + 1)) ks := by
  unfold firstN
  rw [List.foldl_map]
theorem RepX.not_nil {xs : List RX} {k : Nat} {e : PE} (h : RepX xs k e) : e ≠ .nil := by
  cases h <;> simp

theorem names_any {p : PS} {S : RP} (rel : PRel S p) (hup : Up p.nodes) (hok : NamesOk p.nodes) (hp : ∀ i, 0 ≤ (p.nodes.getD i default).line) {kk : Nat} (sok : SOk S kk) (hkk : kk ≤ 820) {lo b : Nat} {ρ : Nat → Ro} {M : List (RNd × Value)} {s : XR} {vn vx vt : Value} {line : Int} (hns : M.map Prod.fst = S.nodes) (hxs : s.xs = S.xs) :
    ∀ (f k : Nat), k < S.nodes.length → p.nodes.length ≤ k + 1 + f → ∀ (l : List RDc), l.length + (S.nodes.length - k) ≤ 2000 → ∀ (w : World) (lv : Value), See w lo b ρ M s vn vx vt line l lv →
      Calls Tryz.prog 46 #[.pointer (some ⟨b, 0, none⟩), lv, .int .i64 k] w fun e w' => e = .returned (.int .i64 (rnamesF p.nodes f l (k + 1))) ∧ Below w.heap.size w w'
  | 0, k, hk, hf, _, _, _, _, _ => by have := rel.len; omega
  | f + 1, k, hk, hf, l, hl, w, lv, see => by
    have hml : M.length = S.nodes.length := by rw [← hns, List.length_map]
    obtain ⟨kv, hkv⟩ := getM hns (show k < M.length by omega)
    have nr := rel.node k hk
    have hlen := rel.len
    have hm : M.length ≤ 2000 := by have := sok.nodes; omega
    have hkl : (S.at k).kids.length ≤ 2000 := by have := sok.kids k; omega
    have hxl : s.xs.length ≤ 500000 := by have := sok.xs; rw [hxs]; omega
    have hdec := hok.dec (k + 1) (by omega) (by omega)
    obtain ⟨la, lc, hlv⟩ := ownsRow_len see.dl
    subst hlv
    have e1 : rnamesF p.nodes (f + 1) l (k + 1) = if nodeOk l (p.at (k + 1)) then (p.at (k + 1)).kids.foldl (fun a j => if a ≠ 0 then a else rnamesF p.nodes f (rdecls l (p.at (k + 1)) (k + 1)) j) 0 else (p.at (k + 1)).line := rfl
    have hkid : ∀ kid ∈ (S.at k).kids, k < kid ∧ kid < S.nodes.length := by
      intro kid hkd
      have h1 : kid + 1 ∈ (p.nodes.getD (k + 1) default).kids := by
        show kid + 1 ∈ (p.at (k + 1)).kids
        rw [nr.kids]
        exact List.mem_map.2 ⟨kid, hkd, rfl⟩
      have := hup (k + 1) (kid + 1) h1
      omega
    rw [e1, nr.kids, firstN_map (fun j => rnamesF p.nodes f (rdecls l (p.at (k + 1)) (k + 1)) j), nr.line]
    have hdec : declB (p.at (k + 1)) = true → (p.at (k + 1)).expr = .nil ∧ (p.at (k + 1)).name ≠ wIn ∧ (p.at (k + 1)).name ≠ wOut := hdec
    have hkinds := kind_decls (S.at k).kind nr.word
    rw [← nr.kind] at hkinds
    have K : ∀ l2 : List RDc, rdecls l (p.at (k + 1)) (k + 1) = l2 → l2.length ≤ l.length + 1 → ∀ kid ∈ (S.at k).kids, 0 ≤ rnamesF p.nodes f (rdecls l (p.at (k + 1)) (k + 1)) (kid + 1) ∧ ∀ (w' : World) (lv : Value), See w' lo b ρ M s vn vx vt line l2 lv → Calls Tryz.prog 46 #[.pointer (some ⟨b, 0, none⟩), lv, .int .i64 kid] w' fun e w'' => e = .returned (.int .i64 (rnamesF p.nodes f (rdecls l (p.at (k + 1)) (k + 1)) (kid + 1))) ∧ Below w'.heap.size w' w'' := by
      intro l2 h2 hl2 kid hkd
      have hb := hkid kid hkd
      refine ⟨rnames_nonneg hp _ _ _, fun w' lv' see' => ?_⟩
      rw [h2]
      exact names_any rel hup hok hp sok hkk hns hxs f kid hb.2 (by omega) l2 (by omega) w' lv' see'
    have hwf := nr.wf
    cases hd : declB (p.at (k + 1)) with
    | true =>
      have hk2 : (p.at (k + 1)).kind = 15 ∨ (p.at (k + 1)).kind = 16 := by unfold declB at hd; simpa using hd
      unfold WfL at hwf
      rw [if_neg (by omega), if_neg (by omega), if_neg (by omega), if_pos hk2] at hwf
      have hnil := (hdec hd).1
      have hex : (S.at k).ex = none := by
        cases hx : (S.at k).ex with
        | none => rfl
        | some e => exact absurd hnil (nr.some e hx).not_nil
      have hno : nodeOk l (p.at (k + 1)) = true := by
        unfold nodeOk
        rw [hnil, hwf.2, hd]
        simp [peOk]
      rw [hno, if_pos rfl]
      have hrd : rdecls l (p.at (k + 1)) (k + 1) = l ++ [⟨(S.at k).name, decide ((S.at k).kind = wChan), k⟩] := by
        unfold rdecls
        rw [hd, if_pos rfl, nr.name]
        have : decide ((p.at (k + 1)).kind = 16) = decide ((S.at k).kind = wChan) := by rw [Bool.eq_iff_iff, decide_eq_true_iff, decide_eq_true_iff]; exact hkinds.2
        rw [this]; rfl
      exact nm_dd w see hkv hm hkl hex (by rw [← nr.chan]; exact hwf.2) (by rw [← nr.name]; exact hwf.1) (by
        rcases hk2 with x | x
        · exact .inl (hkinds.1.1 x)
        · exact .inr (hkinds.2.1 x)) _ (K _ hrd (by simp)) (by omega)
    | false =>
      have hk2 : ¬ ((p.at (k + 1)).kind = 15 ∨ (p.at (k + 1)).kind = 16) := by unfold declB at hd; simpa using hd
      have hkd : (S.at k).kind ≠ wVar ∧ (S.at k).kind ≠ wChan := ⟨fun x => hk2 (.inl (hkinds.1.2 x)), fun x => hk2 (.inr (hkinds.2.2 x))⟩
      have hrd : rdecls l (p.at (k + 1)) (k + 1) = l := by unfold rdecls; rw [hd]; rfl
      have K := K l hrd (by omega)
      have hno : nodeOk l (p.at (k + 1)) = (peOk l (p.at (k + 1)).expr && (decide ((S.at k).over = []) || decide (rmeans l (S.at k).over true ≠ -1)) && (decide ((S.at k).name = []) || decide (rmeans l (S.at k).name false ≠ -1))) := by
        unfold nodeOk
        rw [hd, nr.chan, nr.name, Bool.or_false]
      rw [hno]
      cases hx : (S.at k).ex with
      | none =>
        rw [nr.none hx]
        have hpe : peOk l .nil = true := rfl
        rw [hpe, Bool.true_and]
        by_cases hov : (S.at k).over = []
        · rw [decide_eq_true hov, Bool.true_or, Bool.true_and]
          by_cases hnm : (S.at k).name = []
          · rw [decide_eq_true hnm, Bool.true_or, if_pos rfl]
            exact nm_b0 w see hkv hm hkl hx hov hnm hkd _ K
          · rw [decide_eq_false hnm, Bool.false_or]
            by_cases hmn : rmeans l (S.at k).name false = -1
            · rw [decide_eq_false (by simpa using hmn), if_neg (by simp)]
              exact nf_c0 w see hkv hm hkl hx hov hnm hkd hmn
            · rw [decide_eq_true hmn, if_pos rfl]
              exact nm_c0 w see hkv hm hkl hx hov hnm hkd hmn _ K
        · rw [decide_eq_false hov, Bool.false_or]
          by_cases hmo : rmeans l (S.at k).over true = -1
          · rw [decide_eq_false (by simpa using hmo), Bool.false_and, if_neg (by simp)]
            by_cases hnm : (S.at k).name = []
            · exact nf_d0 w see hkv hm hkl hx hov hmo hnm hkd
            · exact nf_e0 w see hkv hm hkl hx hov hmo hnm hkd
          · rw [decide_eq_true hmo, Bool.true_and]
            by_cases hnm : (S.at k).name = []
            · rw [decide_eq_true hnm, Bool.true_or, if_pos rfl]
              exact nm_d0 w see hkv hm hkl hx hov hmo hnm hkd _ K
            · rw [decide_eq_false hnm, Bool.false_or]
              by_cases hmn : rmeans l (S.at k).name false = -1
              · rw [decide_eq_false (by simpa using hmn), if_neg (by simp)]
                exact nf_e1 w see hkv hm hkl hx hov hmo hnm hkd hmn
              · rw [decide_eq_true hmn, if_pos rfl]
                exact nm_e0 w see hkv hm hkl hx hov hmo hnm hkd hmn _ K
      | some ei =>
        have rep := nr.some ei hx
        rw [← hxs] at rep
        cases hpe : peOk l (p.at (k + 1)).expr with
        | false =>
          rw [Bool.false_and, Bool.false_and, if_neg (by simp)]
          by_cases hov : (S.at k).over = []
          · by_cases hnm : (S.at k).name = []
            · exact nf_b w see hkv hm hkl hx rep hxl hpe hov hnm hkd
            · exact nf_c1 w see hkv hm hkl hx rep hxl hpe hov hnm hkd
          · by_cases hnm : (S.at k).name = []
            · exact nf_d1 w see hkv hm hkl hx rep hxl hpe hov hnm hkd
            · exact nf_e2 w see hkv hm hkl hx rep hxl hpe hov hnm hkd
        | true =>
          rw [Bool.true_and]
          by_cases hov : (S.at k).over = []
          · rw [decide_eq_true hov, Bool.true_or, Bool.true_and]
            by_cases hnm : (S.at k).name = []
            · rw [decide_eq_true hnm, Bool.true_or, if_pos rfl]
              exact nm_b1 w see hkv hm hkl hx rep hxl hpe hov hnm hkd _ K
            · rw [decide_eq_false hnm, Bool.false_or]
              by_cases hmn : rmeans l (S.at k).name false = -1
              · rw [decide_eq_false (by simpa using hmn), if_neg (by simp)]
                exact nf_c2 w see hkv hm hkl hx rep hxl hpe hov hnm hkd hmn
              · rw [decide_eq_true hmn, if_pos rfl]
                exact nm_c1 w see hkv hm hkl hx rep hxl hpe hov hnm hkd hmn _ K
          · rw [decide_eq_false hov, Bool.false_or]
            by_cases hmo : rmeans l (S.at k).over true = -1
            · rw [decide_eq_false (by simpa using hmo), Bool.false_and, if_neg (by simp)]
              by_cases hnm : (S.at k).name = []
              · exact nf_d2 w see hkv hm hkl hx rep hxl hpe hov hmo hnm hkd
              · exact nf_e3 w see hkv hm hkl hx rep hxl hpe hov hmo hnm hkd
            · rw [decide_eq_true hmo, Bool.true_and]
              by_cases hnm : (S.at k).name = []
              · rw [decide_eq_true hnm, Bool.true_or, if_pos rfl]
                exact nm_d1 w see hkv hm hkl hx rep hxl hpe hov hmo hnm hkd _ K
              · rw [decide_eq_false hnm, Bool.false_or]
                by_cases hmn : rmeans l (S.at k).name false = -1
                · rw [decide_eq_false (by simpa using hmn), if_neg (by simp)]
                  exact nf_e4 w see hkv hm hkl hx rep hxl hpe hov hmo hnm hkd hmn
                · rw [decide_eq_true hmn, if_pos rfl]
                  exact nm_e1 w see hkv hm hkl hx rep hxl hpe hov hmo hnm hkd hmn _ K
end Go.Proofs.YtnhidaamfnjdjaaGreatDoor
