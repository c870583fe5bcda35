import Derived.Test.YtnhidaamfnjdjaaGreatDoorRiE
import Derived.Test.YtnhidaamfnjdjaaGreatDoorRiA
namespace Go.Proofs.YtnhidaamfnjdjaaGreatDoor
open Go.RowKit Go.Maps

theorem kind_write : ∀ W ∈ kindsW, (kindOf W = 4 ↔ W = [33]) := by decide +kernel
theorem flatR_mem (R : Nat → List (Int × Nat)) : ∀ (ks : List Nat) (k : Nat), k ∈ ks → (R k).length ≤ (flatR R ks).length
  | [], _, h => by cases h
  | a :: ks, k, h => by
    have e : flatR R (a :: ks) = R a ++ flatR R ks := rfl
    rw [e, List.length_append]
    simp only [List.mem_cons] at h
    rcases h with rfl | h
    · omega
    · have := flatR_mem R ks k h; omega

theorem uses_any {p : PS} {S : RP} (rel : PRel S p) (hup : Up p.nodes) (hok : NamesOk p.nodes) (hlp : ∀ i, leavesP (p.nodes.getD i default).expr ≤ 100000) {kk : Nat} (sok : SOk S kk) (hkk : kk ≤ 820) {lo b : Nat} {ρ : Nat → Ro} {M : List (RNd × Value)} {s : XR} {vn vx vt : Value} {line : Int} (hns : M.map Prod.fst = S.nodes) (hxs : s.xs = S.xs) :
    ∀ (f k : Nat), k < S.nodes.length → p.nodes.length ≤ k + 1 + f → ∀ (l : List RDc), l.length + (S.nodes.length - k) ≤ 2000 → (ruseF p.nodes f l (k + 1)).length ≤ 900000 → ∀ (w : World) (lv : Value), See w lo b ρ M s vn vx vt line l lv →
      Calls Tryz.prog 72 #[.pointer (some ⟨b, 0, none⟩), lv, .int .i64 k] w fun e w' => ∃ v, e = .returned v ∧ UseAt w w' v (ruseF p.nodes f l (k + 1))
  | 0, k, hk, hf, _, _, _, _, _, _ => by have := rel.len; omega
  | f + 1, k, hk, hf, l, hl, hln, w, lv, see => by
    have hml : M.length = S.nodes.length := by rw [← hns, List.length_map]
    obtain ⟨kv, hkv⟩ := getM hns (show k < M.length by omega)
    have nr := rel.node k hk
    have hlen := rel.len
    have hm : M.length ≤ 2000 := by have := sok.nodes; omega
    have hkl : (S.at k).kids.length ≤ 2000 := by have := sok.kids k; omega
    have hlpk : leavesP (p.at (k + 1)).expr ≤ 100000 := hlp (k + 1)
    have hdec := hok.dec (k + 1) (by omega) (by omega)
    obtain ⟨la, lc, hlv⟩ := ownsRow_len see.dl
    subst hlv
    have e1 : ruseF p.nodes (f + 1) l (k + 1) = rown l (p.at (k + 1)) ++ flatR (fun kid => ruseF p.nodes f (rdecls l (p.at (k + 1)) (k + 1)) (kid + 1)) (S.at k).kids := by
      show rown l (p.at (k + 1)) ++ ((p.at (k + 1)).kids.map (ruseF p.nodes f (rdecls l (p.at (k + 1)) (k + 1)))).flatten = _
      rw [nr.kids, List.map_map]
      rfl
    have hkid : ∀ kid ∈ (S.at k).kids, k < kid ∧ kid < S.nodes.length := by
      intro kid hkd
      have h1 : kid + 1 ∈ (p.nodes.getD (k + 1) default).kids := by
        show kid + 1 ∈ (p.at (k + 1)).kids
        rw [nr.kids]
        exact List.mem_map.2 ⟨kid, hkd, rfl⟩
      have := hup (k + 1) (kid + 1) h1
      omega
    rw [e1, List.length_append] at hln
    rw [e1]
    have hdec : declB (p.at (k + 1)) = true → (p.at (k + 1)).expr = .nil ∧ (p.at (k + 1)).name ≠ wIn ∧ (p.at (k + 1)).name ≠ wOut := hdec
    have hkinds := kind_decls (S.at k).kind nr.word
    have hkw := kind_write (S.at k).kind nr.word
    rw [← nr.kind] at hkinds hkw
    have K : ∀ l2 : List RDc, rdecls l (p.at (k + 1)) (k + 1) = l2 → l2.length ≤ l.length + 1 → ∀ kid ∈ (S.at k).kids, ∀ (w' : World) (lv : Value), See w' lo b ρ M s vn vx vt line l2 lv → Calls Tryz.prog 72 #[.pointer (some ⟨b, 0, none⟩), lv, .int .i64 kid] w' fun e w'' => ∃ v, e = .returned v ∧ UseAt w' w'' v ((fun kid => ruseF p.nodes f (rdecls l (p.at (k + 1)) (k + 1)) (kid + 1)) kid) := by
      intro l2 h2 hl2 kid hkd w' lv' see'
      have hb := hkid kid hkd
      have hle := flatR_mem (fun kid => ruseF p.nodes f (rdecls l (p.at (k + 1)) (k + 1)) (kid + 1)) (S.at k).kids kid hkd
      dsimp only at hle ⊢
      rw [h2] at hle hln ⊢
      exact uses_any rel hup hok hlp sok hkk hns hxs f kid hb.2 (by omega) l2 (by omega) (by omega) w' lv' see'
    have hwf := nr.wf
    generalize hR : (fun kid => ruseF p.nodes f (rdecls l (p.at (k + 1)) (k + 1)) (kid + 1)) = R at *
    cases hd : declB (p.at (k + 1)) with
    | true =>
      have hk2 : (p.at (k + 1)).kind = 15 ∨ (p.at (k + 1)).kind = 16 := by unfold declB at hd; simpa using hd
      unfold WfL at hwf
      rw [if_neg (by omega), if_neg (by omega), if_neg (by omega), if_pos hk2] at hwf
      have hnil := (hdec hd).1
      have hex : (S.at k).ex = none := by
        cases hx : (S.at k).ex with
        | none => rfl
        | some e => exact absurd hnil (nr.some e hx).not_nil
      have hro : rown l (p.at (k + 1)) = [] := by
        unfold rown
        rw [hnil, hwf.2, hd, if_pos rfl, if_pos (.inl rfl)]
        rfl
      rw [hro] at hln ⊢
      have hrd : rdecls l (p.at (k + 1)) (k + 1) = l ++ [⟨(S.at k).name, decide ((S.at k).kind = wChan), k⟩] := by
        unfold rdecls
        rw [hd, if_pos rfl, nr.name]
        have : decide ((p.at (k + 1)).kind = 16) = decide ((S.at k).kind = wChan) := by rw [Bool.eq_iff_iff, decide_eq_true_iff, decide_eq_true_iff]; exact hkinds.2
        rw [this]; rfl
      exact us_dd w see hkv hm hkl hex (by rw [← nr.chan]; exact hwf.2) (by rw [← nr.name]; exact hwf.1) (by
        rcases hk2 with x | x
        · exact .inl (hkinds.1.1 x)
        · exact .inr (hkinds.2.1 x)) R hln (K _ hrd (by simp)) (by omega)
    | false =>
      have hk2 : ¬ ((p.at (k + 1)).kind = 15 ∨ (p.at (k + 1)).kind = 16) := by unfold declB at hd; simpa using hd
      have hkd : (S.at k).kind ≠ wVar ∧ (S.at k).kind ≠ wChan := ⟨fun x => hk2 (.inl (hkinds.1.2 x)), fun x => hk2 (.inr (hkinds.2.2 x))⟩
      have hrd : rdecls l (p.at (k + 1)) (k + 1) = l := by unfold rdecls; rw [hd]; rfl
      have K := K l hrd (by omega)
      have hro : rown l (p.at (k + 1)) = rasks l (p.at (k + 1)).expr ++ ((if (S.at k).over = [] then [] else [(rmeans l (S.at k).over true, if (S.at k).kind = [33] then 4 else 8)]) ++ (if (S.at k).name = [] then [] else [(rmeans l (S.at k).name false, 1)])) := by
        unfold rown
        rw [hd, nr.chan, nr.name]
        simp only [Bool.false_eq_true, false_or, hkw]
      rw [hro] at hln ⊢
      have hwf2 : ((S.at k).over ≠ [] → (S.at k).name = [] → (S.at k).kind = [33]) ∧ ((S.at k).over ≠ [] → (S.at k).name ≠ [] → (S.at k).kind ≠ [33]) := by
        unfold WfL at hwf
        rw [nr.name, nr.chan] at hwf
        constructor
        · intro h1 h2
          by_cases x3 : (p.at (k + 1)).kind = 3
          · rw [if_pos x3] at hwf; exact absurd hwf.2 h1
          · rw [if_neg x3] at hwf
            by_cases x4 : (p.at (k + 1)).kind = 4
            · exact hkw.1 x4
            · rw [if_neg x4] at hwf
              by_cases x5 : (p.at (k + 1)).kind = 5 ∨ (p.at (k + 1)).kind = 14
              · rw [if_pos x5] at hwf; exact absurd h2 hwf.1
              · rw [if_neg x5, if_neg hk2] at hwf; exact absurd hwf.2 h1
        · intro h1 h2 h3
          have x4 := hkw.2 h3
          rw [if_neg (by omega), if_pos x4] at hwf
          exact h2 hwf.1
      cases hx : (S.at k).ex with
      | none =>
        rw [nr.none hx] at hln ⊢
        have hra : rasks l .nil = [] := rfl
        rw [hra] at hln ⊢
        by_cases hov : (S.at k).over = []
        · rw [if_pos hov] at hln ⊢
          by_cases hnm : (S.at k).name = []
          · rw [if_pos hnm] at hln ⊢
            exact us_b0 w see hkv hm hkl hx hov hnm hkd R hln K
          · rw [if_neg hnm] at hln ⊢
            exact us_c0 w see hkv hm hkl hx hov hnm hkd R hln K
        · rw [if_neg hov] at hln ⊢
          by_cases hnm : (S.at k).name = []
          · have h33 := hwf2.1 hov hnm
            rw [if_pos hnm, if_pos h33] at hln ⊢
            have := us_d0 w see hkv hm hkl hx hov h33 hnm hkd R (by simpa using hln) K
            simpa using this
          · have h33 := hwf2.2 hov hnm
            rw [if_neg hnm, if_neg h33] at hln ⊢
            have := us_e0 w see hkv hm hkl hx hov h33 hnm hkd R (by simpa using hln) K
            simpa using this
      | some ei =>
        have rep := nr.some ei hx
        rw [← hxs] at rep
        by_cases hov : (S.at k).over = []
        · rw [if_pos hov] at hln ⊢
          by_cases hnm : (S.at k).name = []
          · rw [if_pos hnm] at hln ⊢
            have := us_b1 w see hkv hm hkl hx rep hlpk hov hnm hkd R (by simpa using hln) K
            simpa using this
          · rw [if_neg hnm] at hln ⊢
            have := us_c1 w see hkv hm hkl hx rep hlpk hov hnm hkd R (by simpa using hln) K
            simpa using this
        · rw [if_neg hov] at hln ⊢
          by_cases hnm : (S.at k).name = []
          · have h33 := hwf2.1 hov hnm
            rw [if_pos hnm, if_pos h33] at hln ⊢
            have := us_d1 w see hkv hm hkl hx rep hlpk hov h33 hnm hkd R (by simpa using hln) K
            simpa using this
          · have h33 := hwf2.2 hov hnm
            rw [if_neg hnm, if_neg h33] at hln ⊢
            have := us_e1 w see hkv hm hkl hx rep hlpk hov h33 hnm hkd R (by simpa [Nat.add_assoc, Nat.add_comm, Nat.add_left_comm] using hln) K
            simpa using this
end Go.Proofs.YtnhidaamfnjdjaaGreatDoor
/- HOW MUCH STANDS IN AN EXPRESSION of a text, and in what a node uses, at most. Plain. -/
namespace Go.Proofs.YtnhidaamfnjdjaaGreatDoor
open Go.RowKit Go.Maps

theorem fromF_lv {f : RS → PE × RS} {c d : Nat} (hf : ∀ σ, leavesP (f σ).1 ≤ c) (p : PE × RS) (hp : leavesP p.1 ≤ d) : leavesP (fromF f p).1 ≤ d + c := by
  unfold fromF; split
  · have := hf p.2.next
    show leavesP p.1 + leavesP (f p.2.next).1 ≤ _
    omega
  · omega
theorem leafF_lv (σ : RS) : leavesP (leafF σ).1 ≤ 1 := by
  unfold leafF; split
  · exact Nat.zero_le _
  · exact Nat.le_refl _
theorem operandF_lv : ∀ (n : Nat) (σ : RS), leavesP (operandF n σ).1 ≤ 2 ^ n
  | 0, σ => by
    unfold operandF; split
    · exact Nat.zero_le _
    · exact leafF_lv σ
  | n + 1, σ => by
    unfold operandF; split
    · have := fromF_lv (operandF_lv n) _ (operandF_lv n (({ σ with opn := σ.opn + 1 } : RS).need [40]))
      have e : 2 ^ (n + 1) = 2 ^ n + 2 ^ n := by rw [Nat.pow_succ]; omega
      rw [e]
      exact this
    · have := leafF_lv σ
      have h2 : 1 ≤ 2 ^ (n + 1) := Nat.one_le_two_pow
      omega
def LvP (e : PE) : Prop := leavesP e ≤ 32
theorem exprF_lv (σ : RS) : LvP (exprF 4 σ).1 := fromF_lv (operandF_lv 4) _ (operandF_lv 4 _)
theorem nil_lv : LvP .nil := Nat.zero_le _
theorem writeF_lv (ch : Bs) (σ : RS) : LvP (writeF ch σ).1.expr := exprF_lv _
theorem readF_lv (k : Int) (ch : Bs) (σ : RS) : LvP (readF k ch σ).1.expr := nil_lv
theorem onNameF_lv (nm : Bs) (σ : RS) : LvP (onNameF nm σ).1.expr := by
  unfold onNameF; split
  · exact exprF_lv _
  · split
    · exact writeF_lv _ _
    · exact readF_lv _ _ _
theorem guardedF_lv (g : PE) (σ : RS) (h : LvP g) : LvP (guardedF g σ).1.expr := h
theorem branchF_lv (σ : RS) : LvP (branchF σ).1.expr := by
  unfold branchF; split
  · exact readF_lv _ _ _
  · split
    · exact guardedF_lv _ _ (exprF_lv _)
    · split
      · exact readF_lv _ _ _
      · refine guardedF_lv _ _ (Nat.le_trans (fromF_lv (d := 1) (operandF_lv _) _ ?_) ?_)
        · exact Nat.le_refl _
        · decide
theorem ite_lv {c : Prop} [Decidable c] {a b : LP × RS} (ha : LvP a.1.expr) (hb : LvP b.1.expr) : LvP (if c then a else b).1.expr := by
  split
  · exact ha
  · exact hb
theorem processF_lv (σ : RS) : LvP (processF σ).1.expr :=
  ite_lv nil_lv (ite_lv nil_lv (ite_lv nil_lv (ite_lv nil_lv (ite_lv nil_lv (ite_lv nil_lv (ite_lv nil_lv (ite_lv (exprF_lv _) (ite_lv (exprF_lv _) (ite_lv nil_lv (ite_lv nil_lv (ite_lv (readF_lv _ _ _) (ite_lv (writeF_lv _ _) (onNameF_lv _ _)))))))))))))
theorem lineF_lv (above : Int) (σ : RS) : LvP (lineF above σ).1.expr := by
  unfold lineF; split
  · exact exprF_lv _
  · split
    · exact branchF_lv _
    · exact processF_lv _
theorem text_lv (text : Bs) (s : PS) (hs : (parseF text (linesF text)).1 = some s) : ∀ i, leavesP (s.nodes.getD i default).expr ≤ 32 := by
  obtain ⟨_, rfl, _⟩ := parseF_done_iff _ _ _ hs
  have hd := upTo_keeps (fun n => LvP n.expr) (fun _ _ h => h) nil_lv (fun body above _ _ _ => lineF_lv above (startF body)) (linesF text) (linesF text).length
  have h0 : ∀ k, ((upTo (linesF text) k).at 0).expr = .nil := by
    intro k
    induction k with
    | zero => rfl
    | succ k ih =>
      show (((upTo (linesF text) k).add _ _).1.at 0).expr = _
      have hne := (upTo_first (linesF text) k).2.1
      have hok := upTo_ok (linesF text) k
      generalize upTo (linesF text) k = s at *
      unfold PS.add
      split
      · exact ih
      · split
        · exact ih
        · split
          · exact ih
          · rename_i h2
            dsimp only
            split
            · exact ih
            · rw [put_at _ _ _ _ (hok.above (PS.fits_lt (by
                cases hh : s.fits ((((linesF text).getD k []).length - (trimB ((linesF text).getD k [])).length) / 2) with
                | true => rfl
                | false => exact absurd (.inr hh) h2)))]
              split
              · exact ih
              · rw [if_neg (by have := List.length_pos_iff.2 hne; omega)]
                exact ih
  intro i
  cases i with
  | zero =>
    have := h0 (linesF text).length
    unfold PS.at at this
    rw [this]
    exact Nat.zero_le _
  | succ i =>
    rcases Nat.lt_or_ge (i + 1) (upTo (linesF text) (linesF text).length).nodes.length with x | x
    · refine hd _ ?_
      rw [getD_lt _ _ _ x, List.mem_drop_iff_getElem]
      exact ⟨i, by omega, by congr 1; omega⟩
    · rw [getD_ge _ _ _ x]; exact Nat.zero_le _
theorem rown_len (l : List RDc) (n : PNode) (h : leavesP n.expr ≤ 32) : (rown l n).length ≤ 34 := by
  unfold rown
  rw [List.length_append, List.length_append, rasks_len]
  have h1 : (if n.chan = [] then ([] : List (Int × Nat)) else [(rmeans l n.chan true, if n.kind = 4 then 4 else 8)]).length ≤ 1 := by split <;> simp
  have h2 : (if declB n = true ∨ n.name = [] then ([] : List (Int × Nat)) else [(rmeans l n.name false, 1)]).length ≤ 1 := by split <;> simp
  omega
theorem ruse_len {ns : List PNode} {E : Nat → Nat} (hrow : ∀ i, i < ns.length → KRow E (i + 1) (ns.getD i default).kids (E i)) (htop : ∀ i, i < ns.length → E i ≤ ns.length) (hlv : ∀ i, leavesP (ns.getD i default).expr ≤ 32) :
    ∀ (f : Nat) (l : List RDc) (i : Nat), i < ns.length → (ruseF ns f l i).length ≤ 40 * (E i - i)
  | 0, _, _, _ => Nat.zero_le _
  | f + 1, l, i, hi => by
    have key : ∀ (l2 : List RDc) (ks : List Nat) (a e : Nat), KRow E a ks e → e ≤ ns.length → ((ks.map (ruseF ns f l2)).flatten).length ≤ 40 * (e - a) := by
      intro l2 ks
      induction ks with
      | nil => intro a e _ _; exact Nat.zero_le _
      | cons k ks ih =>
        intro a e hr he
        obtain ⟨h1, h2, h3⟩ := hr
        have h4 := h3.le
        have h5 := ih (E k) e h3 he
        have h6 := ruse_len hrow htop hlv f l2 k (by omega)
        rw [List.map_cons, List.flatten_cons, List.length_append]
        omega
    have h1 := key (rdecls l (ns.getD i default) i) _ _ _ (hrow i hi) (htop i hi)
    have h2 := rown_len l (ns.getD i default) (hlv i)
    have h3 := (hrow i hi).le
    show (rown l (ns.getD i default) ++ ((ns.getD i default).kids.map (ruseF ns f (rdecls l (ns.getD i default) i))).flatten).length ≤ _
    rw [List.length_append]
    omega
end Go.Proofs.YtnhidaamfnjdjaaGreatDoor
