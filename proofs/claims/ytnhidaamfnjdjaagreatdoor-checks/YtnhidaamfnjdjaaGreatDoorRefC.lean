import Derived.Test.YtnhidaamfnjdjaaGreatDoorRefA
import Derived.Test.YtnhidaamfnjdjaaGreatDoorGoodA
/- THE REFERENCE's LINES. -/
namespace Go.Proofs.YtnhidaamfnjdjaaGreatDoor
open Go.RowKit Go.Maps

def lstep (p : List Bs × Bs) (c : UInt8) : List Bs × Bs := if c = 10 then (p.1 ++ [p.2], []) else (p.1, p.2 ++ [c])
def lscan (l : Bs) : List Bs × Bs := l.foldl lstep ([], [])
theorem lscan_snoc (l : Bs) (c : UInt8) : lscan (l ++ [c]) = lstep (lscan l) c := by unfold lscan; rw [List.foldl_append]; rfl
theorem lscan_is (l : Bs) : flatL (lscan l).1 ++ (lscan l).2 = l ∧ (∀ x ∈ (lscan l).1, (10 : UInt8) ∉ x) ∧ (10 : UInt8) ∉ (lscan l).2 := by
  have key : ∀ (l : Bs) (p : List Bs × Bs), (∀ x ∈ p.1, (10 : UInt8) ∉ x) → (10 : UInt8) ∉ p.2 → flatL (l.foldl lstep p).1 ++ (l.foldl lstep p).2 = (flatL p.1 ++ p.2) ++ l ∧ (∀ x ∈ (l.foldl lstep p).1, (10 : UInt8) ∉ x) ∧ (10 : UInt8) ∉ (l.foldl lstep p).2 := by
    intro l
    induction l with
    | nil => intro p h1 h2; exact ⟨by simp, h1, h2⟩
    | cons c l ih =>
      intro p h1 h2
      rw [List.foldl_cons]
      by_cases hc : c = 10
      · have e : lstep p c = (p.1 ++ [p.2], []) := if_pos hc
        have := ih (lstep p c) (by rw [e]; intro x hx; rw [List.mem_append, List.mem_singleton] at hx; rcases hx with hx | rfl; exact h1 x hx; exact h2) (by rw [e]; simp)
        refine ⟨this.1.trans ?_, this.2⟩
        rw [e, hc]
        simp [flatL]
      · have e : lstep p c = (p.1, p.2 ++ [c]) := if_neg hc
        have := ih (lstep p c) (by rw [e]; exact h1) (by rw [e, List.mem_append, not_or]; exact ⟨h2, by simpa using fun x => hc x.symm⟩)
        refine ⟨this.1.trans ?_, this.2⟩
        rw [e]
        simp
  have := key l ([], []) (by simp) (by simp)
  simpa [lscan, flatL] using this
theorem linesF_scan (T : Bs) : linesF T = (lscan T).1 ++ [(lscan T).2] := by
  obtain ⟨h1, h2, h3⟩ := lscan_is T
  have key : ∀ (ls : List Bs) (c : Bs), (∀ x ∈ ls, (10 : UInt8) ∉ x) → (10 : UInt8) ∉ c → linesF (flatL ls ++ c) = ls ++ [c] := by
    intro ls
    induction ls with
    | nil => intro c _ hc; exact linesF_no c hc
    | cons l ls ih =>
      intro c hl hc
      have e : flatL (l :: ls) ++ c = l ++ 10 :: (flatL ls ++ c) := by simp [flatL]
      rw [e, linesF_cons l _ (hl l (by simp)), ih c (fun x hx => hl x (by simp [hx])) hc]
      rfl
  conv => lhs; rw [← h1]
  exact key _ _ h2 h3
theorem lscan_few (l : Bs) : (lscan l).1.length ≤ l.length := by
  have h2 : ∀ (l : Bs) (p : List Bs × Bs), (l.foldl lstep p).1.length ≤ p.1.length + l.length := by
    intro l
    induction l with
    | nil => intro p; simp
    | cons c l ih =>
      intro p
      rw [List.foldl_cons]
      have := ih (lstep p c)
      have h3 : (lstep p c).1.length ≤ p.1.length + 1 := by unfold lstep; split <;> simp
      simp only [List.length_cons]
      omega
  have := h2 l ([], [])
  unfold lscan
  simpa using this

theorem rba_append (a b : Bs) : (⟨a.toArray⟩ ++ ⟨b.toArray⟩ : ByteArray) = ⟨(a ++ b).toArray⟩ := by
  apply ByteArray.ext
  simp
theorem WordsAt.last {w wr : World} {v : Value} {ls : List Bs} {c : Bs} (h : WordsAt w wr v (ls ++ [c])) : ∃ g cap, v = .slice (some ⟨g, 0, none⟩) (ls.length + 1) cap ∧ wr.cell? ⟨g, ls.length, none⟩ = some (.string ⟨c.toArray⟩) ∧ wr.frozen? ⟨g, ls.length, none⟩ = false ∧
    ∀ d : Bs, WordsAt w (wr.setCell ⟨g, ls.length, none⟩ (.string ⟨d.toArray⟩)) v (ls ++ [d]) := by
  obtain ⟨h1, h2⟩ := h.own
  have hl : (ls ++ [c]).length = ls.length + 1 := by simp
  rw [hl] at h1 h2
  rcases h2 with ⟨_, h2⟩ | ⟨g, cap, cur, rfl, hb, hg, hn, hc, hsz, hx⟩
  · omega
  · have hge := h.new g rfl
    refine ⟨g, cap, rfl, ?_, frozen_at hg _, fun d => ⟨?_, ?_, h.new⟩⟩
    · refine ownsRow_cell (n := ls.length + 1) hg (by simpa using hx) ?_
      simp [wstrs]
    · refine ⟨by simp [wstrs], .inr ⟨g, cap, cur.setIfInBounds ls.length (.string ⟨d.toArray⟩), by simp, hb, at_setCell hg _ _, by simpa using hn, hc, by simpa using hsz, ?_⟩⟩
      rw [Array.toList_setIfInBounds]
      have e1 : (ls ++ [d]).length * 1 = ls.length + 1 := by simp
      have hx' : cur.toList.take (ls.length + 1) = wstrs ls ++ [.string ⟨c.toArray⟩] := by simpa [wstrs] using hx
      have hlen : ls.length < cur.toList.length := by simp; omega
      rw [e1, List.take_add_one, List.getElem?_set_self hlen, List.take_set_of_le (Nat.le_refl _)]
      have e2 : cur.toList.take ls.length = wstrs ls := by
        have := congrArg (fun l => l.take ls.length) hx'
        simp only [List.take_take] at this
        rw [Nat.min_eq_left (by omega)] at this
        rw [this, List.take_left' (by simp [wstrs])]
      rw [e2]
      simp [wstrs]
    · exact ⟨h.bel.os, h.bel.tape, h.bel.output, by simpa using h.bel.size, fun k hk => by
        rw [at_setCell_other rfl (by omega), h.bel.block k hk]⟩

set_option maxRecDepth 20000 in
set_option maxHeartbeats 8000000 in
theorem rlines_any (T : Bs) (S : ByteArray) (hS : S = ⟨T.toArray⟩) (hl : T.length ≤ 1000) (w : World) :
    Calls Tryz.prog 65 #[.string S] w fun e w' => ∃ v, e = .returned v ∧ WordsAt w w' v (linesF T) := by
  have hsl := rs_size T S hS
  have hss : S.size ≤ 1000 := by omega
  have HS := hide hS; have Hsl := hide hsl; have Hl := hide hl
  clear hS hsl hl
  go_enter Tryz.func65, Tryz.ntmps65
  go_wp2_with fail
  go_loopw [3, 4] (fun l i wr => ∃ k : Nat, k ≤ S.size ∧ i = .int .i64 k ∧ WordsAt w wr l ((lscan (T.take k)).1 ++ [(lscan (T.take k)).2])) (fun _ i _ => S.size - (intOf i).toNat)
  case atStart =>
    refine ⟨0, Nat.zero_le _, rfl, ⟨rfl, .inr ⟨w.heap.size, 1, _, rfl, Nat.zero_le _, at_new w _, Nat.le_refl _, by decide, rfl, rfl⟩⟩, ⟨rfl, rfl, rfl, by simp, fun k hk => ?_⟩, ?_⟩
    · rw [Below.heap_alloc _ _ _ hk]
    · intro g hg
      simp [Value.ownBlock] at hg
      omega
  case round =>
    obtain ⟨k, hk, rfl, hw⟩ := hrel
    have hst : ∀ (h : k < S.size), lscan (T.take (k + 1)) = lstep (lscan (T.take k)) S[k] := by
      intro h
      have hlt' : k < T.length := by have := Hsl.out; omega
      rw [rs_get T S HS.out k h hlt', List.take_add_one, List.getElem?_eq_getElem hlt']
      exact lscan_snoc _ _
    have hfew := lscan_few (T.take k)
    have hfew2 : (lscan (T.take k)).2.length ≤ k := by
      have := congrArg List.length (lscan_is (T.take k)).1
      rw [List.length_append, List.length_take] at this
      omega
    have Hend := hide (linesF_scan T)
    by_cases hlt : k < S.size
    · have Hst := hide (hst hlt)
      clear hst
      rw [List.length_take] at hfew
      generalize lscan (T.take k) = sc at *
      obtain ⟨ls, cur⟩ := sc
      simp only at hw hfew hfew2
      obtain ⟨g, cap, rfl, hcell, hfz, hput⟩ := hw.last
      have hn5 : (ls ++ [cur]).length ≤ 100000 := by simp; omega
      have hcb := S[k].toNat_lt
      have Hw := hide hw; have Hput := hide hput
      clear hw hput
      by_cases hc : S[k].toNat = 10
      · have e10 : ((S[k].toNat : Int) == 10) = true := by rw [beq_iff_eq]; omega
        go_wp2_with (at_builtin; refine wpList_append1 Tryz.underlying22 (z := .string ⟨#[]⟩) (bytes := 16) (by kernel_rfl) rfl (by decide) rfl _ _ rfl (.slice (some ⟨g, 0, none⟩) (ls.length + 1) cap) _ _ rfl (Hw.out.own.alloc _) ⟨wr.heap.size, 0, none⟩ 1 (.string ⟨#[]⟩) rfl (new_cell _ _ rfl _ _) rfl hn5 ?_; intro v' w4 o4 g4 b4; obtain ⟨va', vc', rfl⟩ := ownsRow_len o4; have O4 := hide o4; have G4 := hide g4; have B4 := hide b4; clear o4 g4 b4)
        go_roundw
        case rel =>
          refine ⟨k + 1, by omega, by go_num, ?_⟩
          rw [Hst.out]
          have e : lstep (ls, cur) S[k] = (ls ++ [cur], []) := if_pos (UInt8.toNat_inj.1 hc)
          rw [e]
          have h9 := Hw.out.next (x := []) O4.out G4.out B4.out
          have hln : (ls ++ [cur]).length = ls.length + 1 := by simp
          rw [hln] at h9
          exact h9
        case measure => simp [intOf]; omega
      · have e10 : ((S[k].toNat : Int) == 10) = false := by rw [beq_eq_false_iff_ne]; omega
        have hcl : cur.length ≤ 1000 := by omega
        have hcut : S.extract k (k + 1) = ⟨[S[k]].toArray⟩ := by
          have hlt' : k < T.length := by have := Hsl.out; omega
          rw [rs_cut T S HS.out, List.drop_take, List.drop_eq_getElem_cons hlt', ← rs_get T S HS.out k hlt hlt']
          have : k + 1 - k = 1 := by omega
          rw [this]; rfl
        have Hcut := hide hcut
        clear hcut
        go_wp2_with fail
        go_region
        go_wp2_with fail
        go_roundw
        case rel =>
          refine ⟨k + 1, by omega, by go_num, ?_⟩
          rw [Hst.out]
          have e : lstep (ls, cur) S[k] = (ls, cur ++ [S[k]]) := if_neg (fun x => hc (by rw [x]; rfl))
          rw [e]
          have h9 := Hput.out (cur ++ [S[k]])
          rw [← rba_append, ← Hcut.out] at h9
          exact ⟨h9.own, h9.bel.drew, h9.new⟩
        case measure => simp [intOf]; omega
    · have hke : k = S.size := by omega
      have hte : T.take k = T := by rw [hke, Hsl.out]; exact List.take_length
      rw [hte, ← Hend.out] at hw
      have Hw := hide hw
      clear hw hst hfew
      go_wp2_with fail
      go_ret
      exact ⟨_, rfl, Hw.out⟩
end Go.Proofs.YtnhidaamfnjdjaaGreatDoor
/- THE REFERENCE's WORDS: kind, Name, most. -/
namespace Go.Proofs.YtnhidaamfnjdjaaGreatDoor
open Go.RowKit Go.Maps

def kwordsB : List Bs := [wSkip, wStop, wWait, wSeq, wPar, wPri, wWhile, wIf, wWhen, wAlt, wOn, wVar, wChan]
def kwB (t : Bs) : Bool := kwordsB.contains t

set_option maxHeartbeats 1000000 in
theorem rkind_yes (t : Bs) (w : World) (h : t ∈ kwordsB) :
    Calls Tryz.prog 214 #[.string ⟨t.toArray⟩] w fun e w' => e = .returned (.bool true) ∧ w' = w := by
  simp only [kwordsB, List.mem_cons, List.not_mem_nil, or_false] at h
  rcases h with rfl | rfl | rfl | rfl | rfl | rfl | rfl | rfl | rfl | rfl | rfl | rfl | rfl
  all_goals
    simp only [wSkip, wStop, wWait, wSeq, wPar, wPri, wWhile, wIf, wWhen, wAlt, wOn, wVar, wChan]
    go_enter Tryz.func214, Tryz.ntmps214
    go_wp2
    go_ret
    exact ⟨rfl, rfl⟩
set_option maxHeartbeats 1000000 in
theorem rkind_no (t : Bs) (w : World) (h : t ∉ kwordsB) :
    Calls Tryz.prog 214 #[.string ⟨t.toArray⟩] w fun e w' => e = .returned (.bool false) ∧ w' = w := by
  simp only [kwordsB, List.mem_cons, List.not_mem_nil, or_false, not_or, wSkip, wStop, wWait, wSeq, wPar, wPri, wWhile, wIf, wWhen, wAlt, wOn, wVar, wChan] at h
  obtain ⟨h1, h2, h3, h4, h5, h6, h7, h8, h9, h10, h11, h12, h13⟩ := h
  have h1 := beq_eq_false_iff_ne.2 h1
  have h2 := beq_eq_false_iff_ne.2 h2
  have h3 := beq_eq_false_iff_ne.2 h3
  have h4 := beq_eq_false_iff_ne.2 h4
  have h5 := beq_eq_false_iff_ne.2 h5
  have h6 := beq_eq_false_iff_ne.2 h6
  have h7 := beq_eq_false_iff_ne.2 h7
  have h8 := beq_eq_false_iff_ne.2 h8
  have h9 := beq_eq_false_iff_ne.2 h9
  have h10 := beq_eq_false_iff_ne.2 h10
  have h11 := beq_eq_false_iff_ne.2 h11
  have h12 := beq_eq_false_iff_ne.2 h12
  have h13 := beq_eq_false_iff_ne.2 h13
  go_enter Tryz.func214, Tryz.ntmps214
  go_wp2
  go_ret
  exact ⟨rfl, rfl⟩
theorem rkind_any (t : Bs) (w : World) :
    Calls Tryz.prog 214 #[.string ⟨t.toArray⟩] w fun e w' => e = .returned (.bool (kwB t)) ∧ w' = w := by
  by_cases h : t ∈ kwordsB
  · have : kwB t = true := by simpa [kwB] using h
    rw [this]; exact rkind_yes t w h
  · have : kwB t = false := by simpa [kwB] using h
    rw [this]; exact rkind_no t w h

/-- may the word be a name? -/
def rnameB (t : Bs) : Bool := !(t == []) && !(t == wIn) && !(t == wOut) && !(kwB t) && !(t == [120, 33]) && (classF (t.headD 0) == 97)

set_option maxHeartbeats 2000000 in
theorem rName_any (t : Bs) (w : World) (hl : t.length ≤ 1000) :
    Calls Tryz.prog 189 #[.string ⟨t.toArray⟩] w fun e w' => e = .returned (.bool (rnameB t)) ∧ w' = w := by
  have K := hide (rkind_any t w)
  generalize hr : rnameB t = r
  unfold rnameB at hr
  by_cases h0 : t = []
  · subst h0
    have hr : false = r := hr
    subst hr
    clear hl
    go_enter Tryz.func189, Tryz.ntmps189
    go_wp2_with (go_at_call 214; refine K.out.mono ?_; rintro e wx ⟨rfl, hw⟩; have hw := hw.symm; subst hw)
    go_ret
    exact ⟨rfl, rfl⟩
  · have e0 := beq_eq_false_iff_ne.2 h0
    rw [e0] at hr
    have hp : 0 < t.length := List.length_pos_iff.2 h0
    by_cases h1 : t = wIn
    · subst h1
      have hr : false = r := by rw [← hr]; rfl
      subst hr
      clear hl hp h0 e0
      simp only [wIn] at K ⊢
      go_enter Tryz.func189, Tryz.ntmps189
      go_wp2_with (go_at_call 214; refine K.out.mono ?_; rintro e wx ⟨rfl, hw⟩; have hw := hw.symm; subst hw)
      go_ret
      exact ⟨rfl, rfl⟩
    · by_cases h2 : t = wOut
      · subst h2
        have hr : false = r := by rw [← hr]; rfl
        subst hr
        clear hl hp h0 e0 h1
        simp only [wOut] at K ⊢
        go_enter Tryz.func189, Tryz.ntmps189
        go_wp2_with (go_at_call 214; refine K.out.mono ?_; rintro e wx ⟨rfl, hw⟩; have hw := hw.symm; subst hw)
        go_ret
        exact ⟨rfl, rfl⟩
      · have e1 := beq_eq_false_iff_ne.2 h1
        have e2 := beq_eq_false_iff_ne.2 h2
        rw [e1, e2] at hr
        simp only [wIn, wOut] at e1 e2
        cases hk : kwB t with
        | true =>
          rw [hk] at K hr
          have hr : false = r := by rw [← hr]; rfl
          subst hr
          clear h0 h1 h2 hk
          go_enter Tryz.func189, Tryz.ntmps189
          go_wp2_with (go_at_call 214; refine K.out.mono ?_; rintro e wx ⟨rfl, hw⟩; have hw := hw.symm; subst hw)
          go_ret
          exact ⟨rfl, rfl⟩
        | false =>
          rw [hk] at K hr
          by_cases h3 : t = [120, 33]
          · subst h3
            have hr : false = r := by rw [← hr]; rfl
            subst hr
            clear hl hp h0 e0 h1 h2 e1 e2 hk
            go_enter Tryz.func189, Tryz.ntmps189
            go_wp2_with (go_at_call 214; refine K.out.mono ?_; rintro e wx ⟨rfl, hw⟩; have hw := hw.symm; subst hw)
            go_ret
            exact ⟨rfl, rfl⟩
          · have e3 := beq_eq_false_iff_ne.2 h3
            rw [e3] at hr
            have hr2 : (classF (t.headD 0) == 97) = r := by rw [← hr]; simp
            have Hr := hide hr2
            clear h0 h1 h2 h3 hk hr hr2
            go_enter Tryz.func189, Tryz.ntmps189
            go_wp2_with (go_at_call 214; refine K.out.mono ?_; rintro e wx ⟨rfl, hw⟩; have hw := hw.symm; subst hw)
            refine (class_any _ _).mono ?_
            rintro e wx ⟨rfl, hw⟩
            have hw := hw.symm
            subst hw
            have hc : (⟨t.toArray⟩ : ByteArray)[0]'(by simpa [ByteArray.size] using hp) = t.headD 0 := by
              cases t with
              | nil => simp at hp
              | cons c u => rfl
            rw [hc]
            have Hr2 := Hr.out
            generalize classF (t.headD 0) = z at *
            by_cases h5 : z = 97
            · subst h5
              have hr : true = r := Hr2
              subst hr
              go_wp2
              go_ret
              exact ⟨rfl, rfl⟩
            · have e5 : ((z : Int) == 97) = false := by rw [beq_eq_false_iff_ne]; omega
              have hr : false = r := by rw [← Hr2]; exact (beq_eq_false_iff_ne.2 h5).symm
              subst hr
              go_wp2
              go_ret
              exact ⟨rfl, rfl⟩

/-- how many may stand below a line of this word -/
def rmostF (t : Bs) : Int := if t = wSeq ∨ t = wPar ∨ t = wIf ∨ t = wAlt then -1 else if t = wPri then 2 else if t = wWhile ∨ t = wWhen ∨ t = wOn ∨ t = wVar ∨ t = wChan then 1 else 0
set_option maxHeartbeats 1000000 in
theorem rmost_any (t : Bs) (w : World) : Calls Tryz.prog 185 #[.string ⟨t.toArray⟩] w fun e w' => e = .returned (.int .i64 (rmostF t)) ∧ w' = w := by
  by_cases h : t ∈ [wSeq, wPar, wIf, wAlt, wPri, wWhile, wWhen, wOn, wVar, wChan]
  · simp only [List.mem_cons, List.not_mem_nil, or_false] at h
    rcases h with rfl | rfl | rfl | rfl | rfl | rfl | rfl | rfl | rfl | rfl
    all_goals
      generalize hz : rmostF _ = z
      have hz2 := hz
      simp only [rmostF, wSeq, wPar, wIf, wAlt, wPri, wWhile, wWhen, wOn, wVar, wChan] at hz2 ⊢
      simp at hz2
      subst hz2
      clear hz
      go_enter Tryz.func185, Tryz.ntmps185
      go_wp2
      go_ret
      exact ⟨rfl, rfl⟩
  · simp only [List.mem_cons, List.not_mem_nil, or_false, not_or] at h
    obtain ⟨h1, h2, h3, h4, h5, h6, h7, h8, h9, h10⟩ := h
    have hz : rmostF t = 0 := by simp [rmostF, h1, h2, h3, h4, h5, h6, h7, h8, h9, h10]
    rw [hz]
    have h1 := beq_eq_false_iff_ne.2 h1
    have h2 := beq_eq_false_iff_ne.2 h2
    have h3 := beq_eq_false_iff_ne.2 h3
    have h4 := beq_eq_false_iff_ne.2 h4
    have h5 := beq_eq_false_iff_ne.2 h5
    have h6 := beq_eq_false_iff_ne.2 h6
    have h7 := beq_eq_false_iff_ne.2 h7
    have h8 := beq_eq_false_iff_ne.2 h8
    have h9 := beq_eq_false_iff_ne.2 h9
    have h10 := beq_eq_false_iff_ne.2 h10
    simp only [wSeq, wPar, wIf, wAlt, wPri, wWhile, wWhen, wOn, wVar, wChan] at h1 h2 h3 h4 h5 h6 h7 h8 h9 h10
    clear hz
    go_enter Tryz.func185, Tryz.ntmps185
    go_wp2
    go_ret
    exact ⟨rfl, rfl⟩
end Go.Proofs.YtnhidaamfnjdjaaGreatDoor
