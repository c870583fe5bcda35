import Derived.Test.YtnhidaamfnjdjaaGreatDoorRiF
import Derived.Test.YtnhidaamfnjdjaaGreatDoorRiH
import Derived.Test.YtnhidaamfnjdjaaGreatDoorRiJ
import Derived.Test.YtnhidaamfnjdjaaGreatDoorRhT
/- WHAT IS SHARED, the whole of it: rsharedF. -/
namespace Go.Proofs.YtnhidaamfnjdjaaGreatDoor
open Go.RowKit Go.Maps

theorem rasks_way (l : List RDc) : ∀ (e : PE) (p : Int × Nat), p ∈ rasks l e → WayOk p
  | .nil, p, h => by simp [rasks] at h
  | .num _, p, h => by simp [rasks] at h
  | .var n _, p, h => by
    simp only [rasks, List.mem_singleton] at h
    subst h
    exact .inr (.inl rfl)
  | .pair _ a b, p, h => by
    simp only [rasks, List.mem_append] at h
    rcases h with h | h
    · exact rasks_way l a p h
    · exact rasks_way l b p h
theorem rown_way (l : List RDc) (n : PNode) (p : Int × Nat) (hp : p ∈ rown l n) : WayOk p := by
  unfold rown at hp
  rw [List.mem_append, List.mem_append] at hp
  rcases hp with h | h | h
  · exact rasks_way l _ p h
  · split at h
    · cases h
    · simp only [List.mem_singleton] at h
      subst h
      unfold WayOk
      dsimp only
      split
      · exact .inr (.inr (.inl rfl))
      · exact .inr (.inr (.inr rfl))
  · split at h
    · cases h
    · simp only [List.mem_singleton] at h
      subst h
      exact .inl rfl
theorem ruse_way (ns : List PNode) : ∀ (f : Nat) (l : List RDc) (i : Nat) (p : Int × Nat), p ∈ ruseF ns f l i → WayOk p
  | 0, _, _, p, h => by simp [ruseF] at h
  | f + 1, l, i, p, h => by
    have h : p ∈ rown l (ns.getD i default) ++ ((ns.getD i default).kids.map (ruseF ns f (rdecls l (ns.getD i default) i))).flatten := h
    rw [List.mem_append] at h
    rcases h with h | h
    · exact rown_way _ _ p h
    · obtain ⟨u, hu, hpu⟩ := List.mem_flatten.1 h
      obtain ⟨k, _, rfl⟩ := List.mem_map.1 hu
      exact ruse_way ns f _ k p hpu
theorem two_iff (U : Nat → List (Int × Nat)) (ks : List Nat) : rtwo (ks.map U) = true ↔ ¬ NoTwo U ks ks.length := by
  unfold rtwo
  rw [List.any_eq_true]
  have at_ : ∀ i, i < ks.length → (ks.map U).getD i [] = U (ks.getD i 0) := by
    intro i hi
    rw [getD_lt _ _ _ (by simpa using hi), getD_lt _ _ _ hi, List.getElem_map]
  constructor
  · rintro ⟨i, hi, h⟩ hno
    rw [List.any_eq_true] at h
    obtain ⟨j, hj, h⟩ := h
    rw [List.mem_range] at hi hj
    rw [List.length_map] at hi
    rw [at_ i hi, at_ j (by omega), hno i hi j hj] at h
    cases h
  · intro h
    by_cases hc : ∃ i ∈ List.range (ks.map U).length, ((List.range i).any fun j => rclashL ((ks.map U).getD i []) ((ks.map U).getD j [])) = true
    · exact hc
    · refine absurd (fun a ha c hcc => ?_) h
      cases hr : rclashL (U (ks.getD a 0)) (U (ks.getD c 0)) with
      | false => rfl
      | true => exact absurd ⟨a, List.mem_range.2 (by rw [List.length_map]; exact ha), List.any_eq_true.2 ⟨c, List.mem_range.2 hcc, by rw [at_ a ha, at_ c (by omega)]; exact hr⟩⟩ hc
theorem rshared_nonneg {ns : List PNode} (hp : ∀ i, 0 ≤ (ns.getD i default).line) : ∀ (f : Nat) (l : List RDc) (i : Nat), 0 ≤ rsharedF ns f l i
  | 0, _, _ => Int.le_refl _
  | f + 1, l, i => by
    unfold rsharedF
    split
    · exact hp i
    · have key : ∀ (ks : List Nat) (a : Int), 0 ≤ a → 0 ≤ ks.foldl (fun a k => if a ≠ 0 then a else rsharedF ns f (rdecls l (ns.getD i default) i) k) a := by
        intro ks
        induction ks with
        | nil => intro a ha; exact ha
        | cons k ks ih =>
          intro a ha
          rw [List.foldl_cons]
          refine ih _ ?_
          split
          · exact ha
          · exact rshared_nonneg hp f _ k
      exact key _ 0 (Int.le_refl _)
theorem kind_par : ∀ W ∈ kindsW, (kindOf W = 8 ∨ kindOf W = 9) ↔ (W = wPar ∨ W = wPri) := by decide +kernel

theorem shared_any {p : PS} {S : RP} (rel : PRel S p) (hup : Up p.nodes) (hok : NamesOk p.nodes) (hp : ∀ i, 0 ≤ (p.nodes.getD i default).line) (hlp : ∀ i, leavesP (p.nodes.getD i default).expr ≤ 32) (hlu : ∀ (f : Nat) (l : List RDc) (i : Nat), i < p.nodes.length → (ruseF p.nodes f l i).length ≤ 500000)
    {kk : Nat} (sok : SOk S kk) (hkk : kk ≤ 820) {lo b : Nat} {ρ : Nat → Ro} {M : List (RNd × Value)} {s : XR} {vn vx vt : Value} {line : Int} (hns : M.map Prod.fst = S.nodes) (hxs : s.xs = S.xs) :
    ∀ (f k : Nat), k < S.nodes.length → p.nodes.length ≤ k + 1 + f → ∀ (l : List RDc), l.length + (S.nodes.length - k) ≤ 2000 → ∀ (w : World) (lv : Value), See w lo b ρ M s vn vx vt line l lv →
      Calls Tryz.prog 47 #[.pointer (some ⟨b, 0, none⟩), lv, .int .i64 k] w fun e w' => e = .returned (.int .i64 (rsharedF p.nodes f l (k + 1))) ∧ Below w.heap.size w w'
  | 0, k, hk, hf, _, _, _, _, _ => by have := rel.len; omega
  | f + 1, k, hk, hf, l, hl, w, lv, see => by
    have hml : M.length = S.nodes.length := by rw [← hns, List.length_map]
    obtain ⟨kv, hkv⟩ := getM hns (show k < M.length by omega)
    have nr := rel.node k hk
    have hlen := rel.len
    have hm : M.length ≤ 2000 := by have := sok.nodes; omega
    have hkl : (S.at k).kids.length ≤ 2000 := by have := sok.kids k; omega
    obtain ⟨la, lc, hlv⟩ := ownsRow_len see.dl
    subst hlv
    have e1 : rsharedF p.nodes (f + 1) l (k + 1) = if ((p.at (k + 1)).kind = 8 ∨ (p.at (k + 1)).kind = 9) ∧ rtwo ((p.at (k + 1)).kids.map (ruseF p.nodes f l)) = true then (p.at (k + 1)).line else (p.at (k + 1)).kids.foldl (fun a j => if a ≠ 0 then a else rsharedF p.nodes f (rdecls l (p.at (k + 1)) (k + 1)) j) 0 := rfl
    have hkid : ∀ kid ∈ (S.at k).kids, k < kid ∧ kid < S.nodes.length := by
      intro kid hkd
      have h1 : kid + 1 ∈ (p.nodes.getD (k + 1) default).kids := by
        show kid + 1 ∈ (p.at (k + 1)).kids
        rw [nr.kids]
        exact List.mem_map.2 ⟨kid, hkd, rfl⟩
      have := hup (k + 1) (kid + 1) h1
      omega
    rw [e1, nr.kids, firstN_map (fun j => rsharedF p.nodes f (rdecls l (p.at (k + 1)) (k + 1)) j), nr.line, List.map_map]
    have hkinds := kind_decls (S.at k).kind nr.word
    have hkp := kind_par (S.at k).kind nr.word
    rw [← nr.kind] at hkinds hkp
    have K : ∀ l2 : List RDc, rdecls l (p.at (k + 1)) (k + 1) = l2 → l2.length ≤ l.length + 1 → ∀ kid ∈ (S.at k).kids, 0 ≤ rsharedF p.nodes f (rdecls l (p.at (k + 1)) (k + 1)) (kid + 1) ∧ ∀ (w' : World) (lv : Value), See w' lo b ρ M s vn vx vt line l2 lv → Calls Tryz.prog 47 #[.pointer (some ⟨b, 0, none⟩), lv, .int .i64 kid] w' fun e w'' => e = .returned (.int .i64 (rsharedF p.nodes f (rdecls l (p.at (k + 1)) (k + 1)) (kid + 1))) ∧ Below w'.heap.size w' w'' := by
      intro l2 h2 hl2 kid hkd
      have hb := hkid kid hkd
      refine ⟨rshared_nonneg hp _ _ _, fun w' lv' see' => ?_⟩
      rw [h2]
      exact shared_any rel hup hok hp hlp hlu sok hkk hns hxs f kid hb.2 (by omega) l2 (by omega) w' lv' see'
    cases hd : declB (p.at (k + 1)) with
    | true =>
      have hk2 : (p.at (k + 1)).kind = 15 ∨ (p.at (k + 1)).kind = 16 := by unfold declB at hd; simpa using hd
      have hnp : ¬ ((p.at (k + 1)).kind = 8 ∨ (p.at (k + 1)).kind = 9) := by omega
      rw [if_neg (fun x => hnp x.1)]
      have hrd : rdecls l (p.at (k + 1)) (k + 1) = l ++ [⟨(S.at k).name, decide ((S.at k).kind = wChan), k⟩] := by
        unfold rdecls
        rw [hd, if_pos rfl, nr.name]
        have : decide ((p.at (k + 1)).kind = 16) = decide ((S.at k).kind = wChan) := by rw [Bool.eq_iff_iff, decide_eq_true_iff, decide_eq_true_iff]; exact hkinds.2
        rw [this]; rfl
      exact sh_dd w see hkv hm hkl ⟨fun x => hnp (hkp.2 (.inl x)), fun x => hnp (hkp.2 (.inr x))⟩ (by
        rcases hk2 with x | x
        · exact .inl (hkinds.1.1 x)
        · exact .inr (hkinds.2.1 x)) _ (K _ hrd (by simp)) (by omega)
    | false =>
      have hk2 : ¬ ((p.at (k + 1)).kind = 15 ∨ (p.at (k + 1)).kind = 16) := by unfold declB at hd; simpa using hd
      have hkd : (S.at k).kind ≠ wVar ∧ (S.at k).kind ≠ wChan := ⟨fun x => hk2 (.inl (hkinds.1.2 x)), fun x => hk2 (.inr (hkinds.2.2 x))⟩
      have hrd : rdecls l (p.at (k + 1)) (k + 1) = l := by unfold rdecls; rw [hd]; rfl
      have K := K l hrd (by omega)
      by_cases hpar : (p.at (k + 1)).kind = 8 ∨ (p.at (k + 1)).kind = 9
      · have hpp := hkp.1 hpar
        have hU : ∀ kid ∈ (S.at k).kids, ((ruseF p.nodes f l ∘ (· + 1)) kid).length ≤ 500000 ∧ (∀ q ∈ (ruseF p.nodes f l ∘ (· + 1)) kid, WayOk q) ∧ ∀ (w' : World) (lv : Value), See w' lo b ρ M s vn vx vt line l lv → Calls Tryz.prog 72 #[.pointer (some ⟨b, 0, none⟩), lv, .int .i64 kid] w' fun e w'' => ∃ v, e = .returned v ∧ UseAt w' w'' v ((ruseF p.nodes f l ∘ (· + 1)) kid) := by
          intro kid hkd
          have hb := hkid kid hkd
          have hle := hlu f l (kid + 1) (by omega)
          refine ⟨hle, fun q hq => ruse_way _ _ _ _ q hq, fun w' lv' see' => ?_⟩
          exact uses_any rel hup hok (fun i => Nat.le_trans (hlp i) (by decide)) sok hkk hns hxs f kid hb.2 (by omega) l (by omega) (by omega) w' lv' see'
        by_cases hno : NoTwo (ruseF p.nodes f l ∘ (· + 1)) (S.at k).kids (S.at k).kids.length
        · rw [if_neg (fun x => (two_iff _ _).1 x.2 hno)]
          exact sh_q w see hkv hm hkl hpp _ hU hno _ K
        · rw [if_pos ⟨hpar, (two_iff _ _).2 hno⟩]
          exact sh_p w see hkv hm hkl hpp _ hU hno
      · rw [if_neg (fun x => hpar x.1)]
        exact sh_b w see hkv hm hkl ⟨fun x => hpar (hkp.2 (.inl x)), fun x => hpar (hkp.2 (.inr x))⟩ hkd _ K
end Go.Proofs.YtnhidaamfnjdjaaGreatDoor
/- WHAT CHECK NEEDS OF A TEXT THAT WAS READ. Plain. -/
namespace Go.Proofs.YtnhidaamfnjdjaaGreatDoor
open Go.RowKit Go.Maps

def LinesPos (s : PS) : Prop := ∀ j, j < s.nodes.length → 0 ≤ (s.at j).line
theorem LinesPos.put {s : PS} (h : LinesPos s) (d : Nat) (p : LP) (no : Int) (hd : s.above d < s.nodes.length) (hn : 0 ≤ no) : LinesPos (s.put d p no) := by
  intro j hj
  rw [put_at s d p no hd j]
  have hl : (s.put d p no).nodes.length = s.nodes.length + 1 := by simp [PS.put]
  rw [hl] at hj
  split
  · exact h j (by omega)
  · split
    · exact hn
    · exact h j (by omega)
theorem add_pos {s : PS} (h : LinesPos s) (hok : s.Ok) (l : Bs) (no : Int) (hno : 0 ≤ no) : LinesPos (s.add l no).1 := by
  unfold PS.add
  split
  · exact h
  · split
    · exact h
    · split
      · exact h
      · rename_i h2
        dsimp only
        split
        · exact h
        · refine h.put _ _ _ (hok.above (PS.fits_lt ?_)) hno
          cases hh : s.fits ((l.length - (trimB l).length) / 2) with
          | true => rfl
          | false => exact absurd (.inr hh) h2
theorem upTo_pos (ls : List Bs) : ∀ k, LinesPos (upTo ls k)
  | 0 => fun j hj => by
    have : j = 0 := by simp [upTo, startP] at hj; omega
    subst this
    exact Int.le_refl _
  | k + 1 => add_pos (upTo_pos ls k) (upTo_ok ls k) _ _ (by omega)
theorem root_one {s : PS} {E par : Nat → Nat} (h : Walked s E par) (h0 : 0 < s.nodes.length) (hp : 0 < (s.at 0).kids.length) : rootOf s = 1 := by
  have hr := h.row 0 h0
  unfold rootOf
  cases hk : (s.at 0).kids with
  | nil => rw [hk] at hp; simp at hp
  | cons k ks => rw [hk] at hr; exact hr.1
theorem text_facts (text : Bs) (s : PS) (hs : (parseF text (linesF text)).1 = some s) : Up s.nodes ∧ rootOf s = 1 ∧ (∀ i, 0 ≤ (s.nodes.getD i default).line) ∧ (∀ (f : Nat) (l : List RDc) (i : Nat), i < s.nodes.length → (ruseF s.nodes f l i).length ≤ 500000) ∧ s.nodes.length ≤ 802 := by
  have hlv := text_lv text s hs
  obtain ⟨hl, rfl, hc⟩ := parseF_done_iff _ _ _ hs
  have hlen : (upTo (linesF text) (linesF text).length).nodes.length ≤ 802 := by
    have h1 := upTo_len (linesF text) (linesF text).length
    have h2 := linesF_len text
    omega
  have hr := (root_lt _ _ hc).1
  have hpos := upTo_pos (linesF text) (linesF text).length
  have hn := upTo_numd (linesF text) (linesF text).length
  obtain ⟨E, par, hw⟩ := upTo_walked (linesF text) (linesF text).length
  generalize upTo (linesF text) (linesF text).length = s at *
  refine ⟨hw.up, root_one hw hn.1 hr, fun i => ?_, fun f l i hi => ?_, hlen⟩
  · rcases Nat.lt_or_ge i s.nodes.length with x | x
    · exact hpos i x
    · rw [getD_ge _ _ _ x]; exact Int.le_refl _
  · have h1 := ruse_len hw.row hw.top hlv f l i hi
    have h2 := hw.top i hi
    omega
theorem rgo_sok : ∀ (ls : List Bs) (s : RP) (n k : Nat), SOk s k → ∀ s', rgo s n ls = .ok s' → SOk s' (k + ls.length)
  | [], s, n, k, h, s', hs => by
    have hs : RGone.ok s = .ok s' := hs
    injection hs with e
    subst e
    exact h
  | l :: r, s, n, k, h, s', hs => by
    by_cases hb : trimB l = []
    · rw [rgo_blank hb] at hs
      exact (rgo_sok r s (n + 1) k h s' hs).le (by simp only [List.length_cons]; omega)
    · by_cases he : (s.line l ((n : Int) + 1)).2 = 0
      · rw [rgo_good hb he] at hs
        exact (rgo_sok r _ (n + 1) (k + 1) (line_sok h l _) s' hs).le (by simp only [List.length_cons]; omega)
      · rw [rgo_fail hb he] at hs; cases hs
theorem rgo_err : ∀ (ls : List Bs) (s : RP) (n : Nat) (e l : Int), rgo s n ls = .err e l → e ≠ 0
  | [], s, n, e, l, hs => by
    have hs : RGone.ok s = .err e l := hs
    cases hs
  | x :: r, s, n, e, l, hs => by
    by_cases hb : trimB x = []
    · rw [rgo_blank hb] at hs
      exact rgo_err r s (n + 1) e l hs
    · by_cases he : (s.line x ((n : Int) + 1)).2 = 0
      · rw [rgo_good hb he] at hs
        exact rgo_err r _ (n + 1) e l hs
      · rw [rgo_fail hb he] at hs
        injection hs with h1 h2
        rw [← h1]; exact he
theorem rparse_sok (text : Bs) (S : RP) (h : (rparse text).1 = some S) : SOk S 801 ∧ 0 < S.nodes.length := by
  unfold rparse at h
  split at h
  · cases h
  · rename_i hl
    split at h
    · cases h
    · rename_i s hs
      split at h
      · cases h
      · rename_i hz
        injection h with h
        subst h
        have h1 := rgo_sok _ _ _ 0 start_sok _ hs
        have h2 := linesF_len text
        exact ⟨h1.le (by omega), by
          have : s.nodes.length ≠ 0 := fun x => hz (.inr x)
          omega⟩
theorem rparse_none (text : Bs) (h : (rparse text).1 = none) : (rparse text).2.1 ≠ 0 := by
  unfold rparse at h ⊢
  split
  · decide
  · rename_i hl
    rw [if_neg hl] at h
    split
    · rename_i e l hs
      exact rgo_err _ _ _ _ _ hs
    · rename_i s hs
      rw [hs] at h
      dsimp only at h
      split
      · exact fun x => absurd (show (2 : Int) = 0 from x) (by decide)
      · rename_i hz
        rw [if_neg hz] at h
        cases h
/-- what both checks say of a text that was read, and of one that was not -/
theorem check_none (text : Bs) (h : (rparse text).1 = none) : checkF text = (rparse text).2 := by
  obtain ⟨h1, h2⟩ := parse_rel text
  rw [check_both]
  unfold rcheckF
  cases hp : parseF text (linesF text) with
  | mk o r =>
    obtain ⟨e, l⟩ := r
    rw [hp] at h1 h2
    cases o with
    | none => exact h1.symm
    | some p =>
      obtain ⟨s, h3, _⟩ := h2 p rfl
      rw [h] at h3; cases h3
theorem parse_none_both (text : Bs) (h : (parseF text (linesF text)).1 = none) : (rparse text).1 = none := by
  by_cases hl : text.length ≤ 800
  · have hn := linesF_len text
    have hg := go_rel (linesF text) startRP startP 0 start_rel (by show 1 + _ ≤ _; omega)
    rw [parseF_go text hl] at h
    unfold rparse
    rw [if_neg (by omega)]
    cases hr : rgo startRP 0 (linesF text) with
    | err e l => rfl
    | ok s =>
      cases hp : goL startP 0 (linesF text) with
      | err f m => rw [hr, hp] at hg; exact hg.elim
      | ok p =>
        rw [hr, hp] at hg
        have hg : PRel s p := hg
        have hc := complete_rel hg
        rw [hp] at h
        dsimp only at h ⊢
        by_cases hcc : p.complete 0 = true
        · rw [if_pos hcc] at h; cases h
        · have : (s.closed 0).2 = false ∨ s.nodes.length = 0 := by
            by_cases y : (s.closed 0).2 = false ∨ s.nodes.length = 0
            · exact y
            · exact absurd (hc.2 y) hcc
          rw [if_pos this]
  · unfold rparse
    rw [if_pos (by omega)]
theorem parse_some_both (text : Bs) (S : RP) (h : (rparse text).1 = some S) : ∃ p, (parseF text (linesF text)).1 = some p ∧ PRel S p ∧ checkF text = if rnamesF p.nodes p.nodes.length [] 1 ≠ 0 then (4, rnamesF p.nodes p.nodes.length [] 1) else if rsharedF p.nodes p.nodes.length [] 1 ≠ 0 then (5, rsharedF p.nodes p.nodes.length [] 1) else (0, 0) := by
  cases hp : (parseF text (linesF text)).1 with
  | none => rw [parse_none_both text hp] at h; cases h
  | some p =>
    obtain ⟨s, h3, h4⟩ := (parse_rel text).2 p hp
    rw [h] at h3
    injection h3 with h3
    subst h3
    refine ⟨p, rfl, h4, ?_⟩
    have hroot := (text_facts text p hp).2.1
    rw [check_both]
    unfold rcheckF
    cases hq : parseF text (linesF text) with
    | mk o r =>
      rw [hq] at hp
      have hp : o = some p := hp
      subst hp
      dsimp only
      rw [hroot]
end Go.Proofs.YtnhidaamfnjdjaaGreatDoor
/- CHECK, by the reference: checkF of any text. -/
namespace Go.Proofs.YtnhidaamfnjdjaaGreatDoor
open Go.RowKit Go.Maps

def RCheckPost (text : Bs) (w : World) (e : Ending) (w' : World) : Prop :=
  Below w.heap.size w w' ∧ ((checkF text).1 ≠ 0 → e = .returned (.tuple #[.pointer none, .int .i64 (checkF text).1, .int .i64 (checkF text).2])) ∧
    ((checkF text).1 = 0 → ∃ S b ρ M s vn vx vt line, (rparse text).1 = some S ∧ e = .returned (.tuple #[.pointer (some ⟨b, 0, none⟩), .int .i64 (checkF text).1, .int .i64 (checkF text).2]) ∧ ParsedAt w w' b ρ M S s vn vx vt line)
theorem RCheckPost.val {text : Bs} {w w' : World} {e : Ending} (h : RCheckPost text w e w') : ∃ q : Option Addr, e = .returned (.tuple #[.pointer q, .int .i64 (checkF text).1, .int .i64 (checkF text).2]) := by
  by_cases hz : (checkF text).1 = 0
  · obtain ⟨S, b, ρ, M, s, vn, vx, vt, line, _, he, _⟩ := h.2.2 hz
    exact ⟨_, he⟩
  · exact ⟨_, h.2.1 hz⟩

set_option maxRecDepth 20000 in
set_option maxHeartbeats 8000000 in
theorem rCheck_bad (text : Bs) (hm : text.length ≤ 9223372036854775807) (hp : (rparse text).1 = none) (w : World) : Calls Tryz.prog 31 #[.string ⟨text.toArray⟩] w fun e w' => RCheckPost text w e w' := by
  have C := hide (fun w => rParse_any text hm w)
  have hcf := check_none text hp
  have hne := rparse_none text hp
  unfold RCheckPost
  rw [hcf]
  have Hp := hide hp
  have ec : ((rparse text).2.1 != 0) = true := by simpa using hne
  have Hne : Hid ((rparse text).2.1 ≠ 0) := hne
  clear hp hcf hne
  go_enter Tryz.func31, Tryz.ntmps31
  go_wp2_with (go_at_call 45; refine (C.out _).mono ?_; rintro e w1 ⟨b1, hn, _⟩; have he := hn Hp.out; subst he; have B1 := hide b1; clear hn b1)
  go_ret3
  exact ⟨B1.out, fun _ => rfl, fun x => absurd x Hne.out⟩

set_option maxRecDepth 20000 in
set_option maxHeartbeats 8000000 in
theorem rCheck_good (text : Bs) (hm : text.length ≤ 9223372036854775807) (S : RP) (hp : (rparse text).1 = some S) (w : World) : Calls Tryz.prog 31 #[.string ⟨text.toArray⟩] w fun e w' => RCheckPost text w e w' := by
  have C := hide (fun w => rParse_any text hm w)
  obtain ⟨p, hpp, rel, hcf⟩ := parse_some_both text S hp
  obtain ⟨hup, hroot, hpos, hlu, hlen⟩ := text_facts text p hpp
  obtain ⟨hok, _, _⟩ := text_names text p hpp
  have hlv := text_lv text p hpp
  obtain ⟨sok, hS0⟩ := rparse_sok text S hp
  have hl := rel.len
  have hr1 := rnames_nonneg hpos p.nodes.length [] 1
  have hr2 := rshared_nonneg hpos p.nodes.length [] 1
  have NA : ∀ (lo b : Nat) (ρ : Nat → Ro) (M : List (RNd × Value)) (s : XR) (vn vx vt : Value) (line : Int) (w : World), M.map Prod.fst = S.nodes → s.xs = S.xs → TxAt w lo b ρ M s vn vx vt line →
      Calls Tryz.prog 46 #[.pointer (some ⟨b, 0, none⟩), .slice none 0 0, .int .i64 0] w fun e w' => e = .returned (.int .i64 (rnamesF p.nodes p.nodes.length [] 1)) ∧ Below w.heap.size w w' := by
    intro lo b ρ M s vn vx vt line w h1 h2 h3
    exact names_any rel hup hok hpos sok (by omega) h1 h2 p.nodes.length 0 hS0 (by omega) [] (by simp; omega) w (.slice none 0 0) ⟨h3, World.ownsRow_nil _ _ _ _, by simp⟩
  have SA : ∀ (lo b : Nat) (ρ : Nat → Ro) (M : List (RNd × Value)) (s : XR) (vn vx vt : Value) (line : Int) (w : World), M.map Prod.fst = S.nodes → s.xs = S.xs → TxAt w lo b ρ M s vn vx vt line →
      Calls Tryz.prog 47 #[.pointer (some ⟨b, 0, none⟩), .slice none 0 0, .int .i64 0] w fun e w' => e = .returned (.int .i64 (rsharedF p.nodes p.nodes.length [] 1)) ∧ Below w.heap.size w w' := by
    intro lo b ρ M s vn vx vt line w h1 h2 h3
    exact shared_any rel hup hok hpos hlv hlu sok (by omega) h1 h2 p.nodes.length 0 hS0 (by omega) [] (by simp; omega) w (.slice none 0 0) ⟨h3, World.ownsRow_nil _ _ _ _, by simp⟩
  have Na := hide NA; have Sa := hide SA; have Hp := hide hp
  unfold RCheckPost
  rw [hcf]
  clear NA SA hp hcf hpp hup hroot hpos hlu hok hlv sok hS0 rel hl hlen
  generalize rnamesF p.nodes p.nodes.length [] 1 = r1 at *
  generalize rsharedF p.nodes p.nodes.length [] 1 = r2 at *
  by_cases h1 : r1 = 0
  · subst h1
    rw [if_neg (by simp)]
    by_cases h2 : r2 = 0
    · subst h2
      rw [if_neg (by simp)]
      go_enter Tryz.func31, Tryz.ntmps31
      go_wp2_with (first | (go_at_call 45; refine (C.out _).mono ?_; rintro e w1 ⟨b1, _, hs⟩; obtain ⟨b, ρ, M, s, vn, vx, vt, line, rfl, pa⟩ := hs S Hp.out; have B1 := hide b1; have Pa := hide pa; clear hs b1 pa) | (go_at_call 46; refine (Na.out _ b ρ M s vn vx vt line _ Pa.out.ns Pa.out.xs Pa.out.tx).mono ?_; rintro e w2 ⟨rfl, b2⟩; have B2 := hide b2; clear b2) | (go_at_call 47; refine (Sa.out _ b ρ M s vn vx vt line _ Pa.out.ns Pa.out.xs (Pa.out.tx.below B2.out)).mono ?_; rintro e w3 ⟨rfl, b3⟩; have B3 := hide b3; clear b3))
      go_ret3
      exact ⟨below_trans (below_trans B1.out B2.out B1.out.size) B3.out (Nat.le_trans B1.out.size B2.out.size), fun x => absurd rfl x, fun _ => ⟨S, b, ρ, M, s, vn, vx, vt, line, Hp.out, rfl, (Pa.out.tx.below B2.out).below B3.out, Pa.out.xs, Pa.out.ns⟩⟩
    · have hp2 : 0 < r2 := by omega
      rw [if_pos h2]
      clear h2
      go_enter Tryz.func31, Tryz.ntmps31
      go_wp2_with (first | (go_at_call 45; refine (C.out _).mono ?_; rintro e w1 ⟨b1, _, hs⟩; obtain ⟨b, ρ, M, s, vn, vx, vt, line, rfl, pa⟩ := hs S Hp.out; have B1 := hide b1; have Pa := hide pa; clear hs b1 pa) | (go_at_call 46; refine (Na.out _ b ρ M s vn vx vt line _ Pa.out.ns Pa.out.xs Pa.out.tx).mono ?_; rintro e w2 ⟨rfl, b2⟩; have B2 := hide b2; clear b2) | (go_at_call 47; refine (Sa.out _ b ρ M s vn vx vt line _ Pa.out.ns Pa.out.xs (Pa.out.tx.below B2.out)).mono ?_; rintro e w3 ⟨rfl, b3⟩; have B3 := hide b3; clear b3))
      go_ret3
      exact ⟨below_trans (below_trans B1.out B2.out B1.out.size) B3.out (Nat.le_trans B1.out.size B2.out.size), fun _ => rfl, fun x => absurd x (by decide)⟩
  · have hp1 : 0 < r1 := by omega
    rw [if_pos h1]
    clear h1
    go_enter Tryz.func31, Tryz.ntmps31
    go_wp2_with (first | (go_at_call 45; refine (C.out _).mono ?_; rintro e w1 ⟨b1, _, hs⟩; obtain ⟨b, ρ, M, s, vn, vx, vt, line, rfl, pa⟩ := hs S Hp.out; have B1 := hide b1; have Pa := hide pa; clear hs b1 pa) | (go_at_call 46; refine (Na.out _ b ρ M s vn vx vt line _ Pa.out.ns Pa.out.xs Pa.out.tx).mono ?_; rintro e w2 ⟨rfl, b2⟩; have B2 := hide b2; clear b2))
    go_ret3
    exact ⟨below_trans B1.out B2.out B1.out.size, fun _ => rfl, fun x => absurd x (by decide)⟩
theorem rCheck_any (text : Bs) (hm : text.length ≤ 9223372036854775807) (w : World) : Calls Tryz.prog 31 #[.string ⟨text.toArray⟩] w fun e w' => RCheckPost text w e w' := by
  cases hp : (rparse text).1 with
  | none => exact rCheck_bad text hm hp w
  | some S => exact rCheck_good text hm S hp w
end Go.Proofs.YtnhidaamfnjdjaaGreatDoor
/- THE LAW Checks: its own walk. -/
namespace Go.Proofs.YtnhidaamfnjdjaaGreatDoor
open Go.RowKit Go.Maps

theorem num_any (z : Int) (w : World) : Calls Tryz.prog 14 #[.int .i64 z] w fun e w' => e = .returned (.int .i64 z) ∧ w' = w := by
  go_enter Tryz.func14, Tryz.ntmps14
  go_wp2_with fail
  go_ret
  exact ⟨rfl, rfl⟩

set_option maxRecDepth 20000 in
set_option maxHeartbeats 8000000 in
theorem checks_any (text : Bs) (hl : text.length ≤ 9223372036854775807) (w : World) (m : Int) (hm : w.cell? ⟨0, 0, none⟩ = some (.int .i64 m)) :
    Calls Tryz.prog 15 #[.string ⟨text.toArray⟩] w fun e w' => e = .returned (.bool true) ∧ Below w.heap.size w w' := by
  have C := hide (Check_all text w hl m hm)
  have R := hide (fun w => rCheck_any text hl w)
  have Nm := hide num_any
  clear hm
  generalize hcf : checkF text = cf at C
  obtain ⟨c, d⟩ := cf
  have Hcf := hide hcf
  clear hcf
  have e1 : (c == c) = true := by simp
  have e2 : (d == d) = true := by simp
  go_enter Tryz.func15, Tryz.ntmps15
  go_wp2_with (first | (go_at_call 13; refine C.out.mono ?_; rintro e w1 ⟨rfl, b1⟩; have B1 := hide b1; clear b1) | (go_at_call 31; refine (R.out _).mono ?_; intro e w2 h2; obtain ⟨q2, he⟩ := h2.val; rw [Hcf.out] at he; subst he; have B2 := hide h2.1; clear h2) | (go_at_call 14; refine (Nm.out _ _).mono ?_; rintro e wx ⟨rfl, hw⟩; have hw := hw.symm; subst hw))
  go_ret
  exact ⟨rfl, below_trans B1.out B2.out B1.out.size⟩

theorem cell_bel {w w' : World} {B b i : Nat} {v : Value} (h : w.cell? ⟨b, i, none⟩ = some v) (hb : Below B w w') (hlt : b < B) : w'.cell? ⟨b, i, none⟩ = some v := cell_of_block h (hb.block b hlt)
theorem first_is : checkF [118, 97, 114, 32, 120, 10, 32, 32, 112, 97, 114, 10, 32, 32, 32, 32, 120, 32, 58, 61, 32, 49, 10, 32, 32, 32, 32, 111, 117, 116, 32, 33, 32, 120] = (5, 2) := by decide +kernel

set_option maxRecDepth 20000 in
set_option maxHeartbeats 8000000 in
theorem Checks_any (w : World) (a0 : Option Addr) (b off cap : Nat) (ss : List ByteArray) (hlen : ss.length ≤ 9223372036854775807) (ha : 0 < ss.length → a0 = some ⟨b, off, none⟩) (hce : ∀ (j : Nat) (h : j < ss.length), w.cell? ⟨b, off + j, none⟩ = some (.string ss[j])) (hsz : ∀ s ∈ ss, s.size ≤ 9223372036854775807) (m : Int) (hm : w.cell? ⟨0, 0, none⟩ = some (.int .i64 m)) :
    Calls Tryz.prog 3 #[.slice a0 ss.length cap] w fun e w' => e = .returned (.bool true) ∧ Below w.heap.size w w' := by
  have h0 := cell_lt hm
  have C := Check_all [118, 97, 114, 32, 120, 10, 32, 32, 112, 97, 114, 10, 32, 32, 32, 32, 120, 32, 58, 61, 32, 49, 10, 32, 32, 32, 32, 111, 117, 116, 32, 33, 32, 120] w (by decide) m hm
  rw [first_is] at C
  have C := hide C; have Hm := hide hm; have Nm := hide num_any; have Hce := hide hce; have Hsz := hide hsz; have Ha := hide ha
  clear hm hce hsz ha
  go_enter Tryz.func3, Tryz.ntmps3
  go_wp2_with (first | (go_at_call 13; refine C.out.mono ?_; rintro e w1 ⟨rfl, b1⟩; have B1 := hide b1; clear b1) | (go_at_call 14; refine (Nm.out _ _).mono ?_; rintro e wx ⟨rfl, hw⟩; have hw := hw.symm; subst hw))
  go_loopw [5] (fun i wr => ∃ j : Nat, j ≤ ss.length ∧ i = .int .i64 j ∧ Below w.heap.size w wr) (fun i _ => ss.length - (intOf i).toNat)
  case atStart => exact ⟨0, Nat.zero_le _, rfl, B1.out⟩
  case round =>
    obtain ⟨j, hj, rfl, hb⟩ := hrel
    have Hb := hide hb
    clear hb
    by_cases hlt : j < ss.length
    · have hsh := Ha.out (by omega)
      subst hsh
      have hc := cell_bel (Hce.out j hlt) Hb.out (cell_lt (Hce.out j hlt))
      have hs := Hsz.out ss[j] (List.getElem_mem hlt)
      have hK := checks_any (ss[j]).data.toList (by rw [Array.length_toList]; exact hs) wr m (cell_bel Hm.out Hb.out h0)
      have ee : (⟨(ss[j]).data.toList.toArray⟩ : ByteArray) = ss[j] := by simp
      rw [ee] at hK
      have K := hide hK
      clear hK ee hs
      generalize ss[j] = sj at *
      go_wp2_with (go_at_call 15; refine K.out.mono ?_; rintro e w2 ⟨rfl, b2⟩; have B2 := hide b2; clear b2)
      go_roundw
      case rel => exact ⟨j + 1, by omega, by go_num, below_trans Hb.out B2.out Hb.out.size⟩
      case measure => simp [intOf]; omega
    · go_wp2_with fail
      go_ret
      exact ⟨rfl, Hb.out⟩
end Go.Proofs.YtnhidaamfnjdjaaGreatDoor
