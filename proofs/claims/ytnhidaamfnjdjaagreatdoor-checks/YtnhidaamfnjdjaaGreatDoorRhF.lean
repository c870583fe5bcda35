import Derived.Test.YtnhidaamfnjdjaaGreatDoorRhE
namespace Go.Proofs.YtnhidaamfnjdjaaGreatDoor
open Go.RowKit Go.Maps

theorem RNAt.drew {w : World} {b nb : Nat} {s : XR} {vn vx vt : Value} {line : Int} {k : Bs} {no : Int} {d : Nat} {nm ov : Bs} {e : Int} (h : RNAt w b nb s vn vx vt line k no d nm ov e) : RNAt w.drew b nb s vn vx vt line k no d nm ov e := h.turn h.rd.drew (FrX.refl _ _ _).drew

set_option maxRecDepth 20000 in
set_option maxHeartbeats 8000000 in
theorem rest_bare (b nb : Nat) (s : XR) (vn vx vt : Value) (line no : Int) (d : Nat) (w : World) (h : RNAt w b nb s vn vx vt line s.now no d [] [] (-1)) (hl : Lim s 400) (hb : s.now ∈ bareW) :
    Calls Tryz.prog 129 #[.pointer (some ⟨b, 0, none⟩), .pointer (some ⟨nb, 0, none⟩)] w fun e w' => e = .returned (.tuple #[]) ∧ RNPost b nb vn vt line no d w vx ⟨s.now, [], [], none⟩ (rend s.step) w' := by
  have ht := hl.toks
  have ha := hl.at_
  obtain ⟨va, vc, rfl⟩ := ownsRow_len h.rd.toks
  have c3 := h.rd.c3; have fz := h.rd.fz
  have c2s : ∀ nd v, ((w.drewN nd).setCell ⟨b, 3, none⟩ v).cell? ⟨b, 2, none⟩ = some (.slice va s.toks.length vc) := fun nd v => cell_at (at_setCell (h.drewN nd).rd.blk _ _) 2
  have n0s : ∀ nd v, ((w.drewN nd).setCell ⟨b, 3, none⟩ v).cell? ⟨nb, 0, none⟩ = some (.string ⟨s.now.toArray⟩) := fun nd v => cell_at (at_setCell_other (h.drewN nd).nd h.ne _ _) 0
  have L0 := hide (hl.gr (k := 0) (Gr.refl _) (by omega))
  have H := hide h
  have hstep : s.step.at_ = s.at_ + 1 := rfl
  have hstk : s.step.toks = s.toks := rfl
  unfold rend
  rw [hstep, hstk]
  clear h hl hstep hstk
  generalize hT : s.now = T at *
  have HT := hide hT
  clear hT
  simp only [bareW, List.mem_cons, List.not_mem_nil, or_false, wSkip, wStop, wSeq, wPar, wPri, wIf, wAlt] at hb
  by_cases hend : s.at_ + 1 < s.toks.length
  · rw [if_pos hend]
    generalize s.toks.length = n at *
    rcases hb with rfl | rfl | rfl | rfl | rfl | rfl | rfl
    all_goals
      go_enter Tryz.func129, Tryz.ntmps129
      go_wp2_with (go_at_call 127; refine (now_any _ _ _ _ _ _ _ H.out.rd L0.out).mono ?_; rw [HT.out]; rintro e wx ⟨rfl, nd, rfl⟩)
      go_region
      go_wp2_with (go_at_call 125; refine (wrong_any _ _ _ _ _ _ _ _ (H.out.drewN nd).step.drew.rd).mono ?_; rintro e w4 ⟨rfl, h4', f4⟩; have r4 := (H.out.drewN nd).step.drew.turn h4' f4; have R4 := hide r4; have F4 := hide f4; clear h4' r4 f4)
      go_end0
      exact ⟨rfl, vx, R4.out, ((((FrY.refl _ _ _ _).drewN nd).setB 3 _).drew).trans F4.out.weak.y (.inl rfl), .inl rfl⟩
  · rw [if_neg hend]
    generalize s.toks.length = n at *
    rcases hb with rfl | rfl | rfl | rfl | rfl | rfl | rfl
    all_goals
      go_enter Tryz.func129, Tryz.ntmps129
      go_wp2_with (go_at_call 127; refine (now_any _ _ _ _ _ _ _ H.out.rd L0.out).mono ?_; rw [HT.out]; rintro e wx ⟨rfl, nd, rfl⟩)
      go_region
      go_wp2_with fail
      go_end0
      exact ⟨rfl, vx, (H.out.drewN nd).step.drew, (((FrY.refl _ _ _ _).drewN nd).setB 3 _).drew, .inl rfl⟩
end Go.Proofs.YtnhidaamfnjdjaaGreatDoor
namespace Go.Proofs.YtnhidaamfnjdjaaGreatDoor
open Go.RowKit Go.Maps

set_option maxRecDepth 20000 in
set_option maxHeartbeats 8000000 in
theorem rest_ask (b nb : Nat) (s : XR) (vn vx vt : Value) (line no : Int) (d : Nat) (w : World) (h : RNAt w b nb s vn vx vt line s.now no d [] [] (-1)) (hl : Lim s 400) (hs0 : s.nest = 0) (hb : s.now ∈ [wWait, wWhile, wWhen]) :
    Calls Tryz.prog 129 #[.pointer (some ⟨b, 0, none⟩), .pointer (some ⟨nb, 0, none⟩)] w fun e w' => e = .returned (.tuple #[]) ∧ RNPost b nb vn vt line no d w vx ⟨s.now, [], [], some (rexpr 4 s.step).1⟩ (rend (rexpr 4 s.step).2) w' := by
  have ht := hl.toks
  have ha := hl.at_
  obtain ⟨va, vc, rfl⟩ := ownsRow_len h.rd.toks
  have c3 := h.rd.c3; have fz := h.rd.fz
  have n0s : ∀ nd v, ((w.drewN nd).setCell ⟨b, 3, none⟩ v).cell? ⟨nb, 0, none⟩ = some (.string ⟨s.now.toArray⟩) := fun nd v => cell_at (at_setCell_other (h.drewN nd).nd h.ne _ _) 0
  have L0 := hide (hl.gr (k := 0) (Gr.refl _) (by omega))
  have l1 := hl.gr (k := 399) (gr_step s) (by omega)
  have C := hide (fun w h => rexpr_any b s.step vn vx (.slice va s.toks.length vc) line w h (l1.gr (Gr.refl _) (by omega)) hs0)
  have hqt : (rexpr 4 s.step).2.toks = s.toks := (gr_expr 4 s.step).toks
  have hqa : (rexpr 4 s.step).2.at_ ≤ 1000000 := by
    have := (l1.gr (k := 0) (gr_expr 4 s.step) (by decide)).at_
    omega
  clear l1
  generalize rexpr 4 s.step = q at *
  have H := hide h
  unfold rend
  rw [hqt]
  clear h hl hs0
  generalize hT : s.now = T at *
  have HT := hide hT
  clear hT
  simp only [List.mem_cons, List.not_mem_nil, or_false, wWait, wWhile, wWhen] at hb
  by_cases hend : q.2.at_ < s.toks.length
  · rw [if_pos hend]
    generalize s.toks.length = n at *
    rcases hb with rfl | rfl | rfl
    all_goals
      go_enter Tryz.func129, Tryz.ntmps129
      go_wp2_with (first | (go_at_call 127; refine (now_any _ _ _ _ _ _ _ H.out.rd L0.out).mono ?_; rw [HT.out]; rintro e wx ⟨rfl, nd, rfl⟩) | (go_at_call 186; refine (C.out _ (H.out.drewN nd).step.rd).mono ?_; rintro e w1 ⟨rfl, vx1, r1, f1, n1⟩; have q1 := (H.out.drewN nd).step.call r1 f1 n1; have n51 := q1.n5; have nz1 := q1.nz; have c2e : ∀ v, (w1.setCell ⟨nb, 5, none⟩ v).cell? ⟨b, 2, none⟩ = some (.slice va n vc) := (fun v => cell_at (at_setCell_other q1.rd.blk q1.ne.symm _ _) 2); have c3e : ∀ v, (w1.setCell ⟨nb, 5, none⟩ v).cell? ⟨b, 3, none⟩ = some (.int .i64 q.2.at_) := (fun v => cell_at (at_setCell_other q1.rd.blk q1.ne.symm _ _) 3); have Q1 := hide q1; have F1 := hide f1; have N1 := hide n1; clear r1 f1 n1 q1))
      go_region
      go_wp2_with (go_at_call 125; refine (wrong_any _ _ _ _ _ _ _ _ (Q1.out.setE q.1).drew.rd).mono ?_; rintro e w4 ⟨rfl, h4', f4⟩; have r4 := (Q1.out.setE q.1).drew.turn h4' f4; have R4 := hide r4; have F4 := hide f4; clear h4' r4 f4)
      go_end0
      exact ⟨rfl, vx1, R4.out, (((((FrY.refl _ _ _ _).drewN nd).setB 3 _).trans F1.out.y (.inl rfl)).setN 5 _).drew.trans F4.out.weak.y (.inl rfl), new_le N1.out (FrY.size (((FrY.refl b nb none w).drewN nd).setB 3 _))⟩
  · rw [if_neg hend]
    generalize s.toks.length = n at *
    rcases hb with rfl | rfl | rfl
    all_goals
      go_enter Tryz.func129, Tryz.ntmps129
      go_wp2_with (first | (go_at_call 127; refine (now_any _ _ _ _ _ _ _ H.out.rd L0.out).mono ?_; rw [HT.out]; rintro e wx ⟨rfl, nd, rfl⟩) | (go_at_call 186; refine (C.out _ (H.out.drewN nd).step.rd).mono ?_; rintro e w1 ⟨rfl, vx1, r1, f1, n1⟩; have q1 := (H.out.drewN nd).step.call r1 f1 n1; have n51 := q1.n5; have nz1 := q1.nz; have c2e : ∀ v, (w1.setCell ⟨nb, 5, none⟩ v).cell? ⟨b, 2, none⟩ = some (.slice va n vc) := (fun v => cell_at (at_setCell_other q1.rd.blk q1.ne.symm _ _) 2); have c3e : ∀ v, (w1.setCell ⟨nb, 5, none⟩ v).cell? ⟨b, 3, none⟩ = some (.int .i64 q.2.at_) := (fun v => cell_at (at_setCell_other q1.rd.blk q1.ne.symm _ _) 3); have Q1 := hide q1; have F1 := hide f1; have N1 := hide n1; clear r1 f1 n1 q1))
      go_region
      go_wp2_with fail
      go_end0
      exact ⟨rfl, vx1, (Q1.out.setE q.1).drew, (((((FrY.refl _ _ _ _).drewN nd).setB 3 _).trans F1.out.y (.inl rfl)).setN 5 _).drew, new_le N1.out (FrY.size (((FrY.refl b nb none w).drewN nd).setB 3 _))⟩

set_option maxRecDepth 20000 in
set_option maxHeartbeats 8000000 in
theorem rest_decl (b nb : Nat) (s : XR) (vn vx vt : Value) (line no : Int) (d : Nat) (w : World) (h : RNAt w b nb s vn vx vt line s.now no d [] [] (-1)) (hl : Lim s 400) (_hs0 : s.nest = 0) (hb : s.now ∈ [wVar, wChan]) :
    Calls Tryz.prog 129 #[.pointer (some ⟨b, 0, none⟩), .pointer (some ⟨nb, 0, none⟩)] w fun e w' => e = .returned (.tuple #[]) ∧ RNPost b nb vn vt line no d w vx ⟨s.now, s.step.name.1, [], none⟩ (rend s.step.name.2) w' := by
  have ht := hl.toks
  have ha := hl.at_
  obtain ⟨va, vc, rfl⟩ := ownsRow_len h.rd.toks
  have c3 := h.rd.c3; have fz := h.rd.fz
  have n0s : ∀ nd v, ((w.drewN nd).setCell ⟨b, 3, none⟩ v).cell? ⟨nb, 0, none⟩ = some (.string ⟨s.now.toArray⟩) := fun nd v => cell_at (at_setCell_other (h.drewN nd).nd h.ne _ _) 0
  have L0 := hide (hl.gr (k := 0) (Gr.refl _) (by omega))
  have l1 := hl.gr (k := 399) (gr_step s) (by omega)
  have L1 := hide (l1.gr (k := 1) (Gr.refl _) (by omega))
  have hqt : s.step.name.2.toks = s.toks := (gr_name s.step).toks
  have hqa : s.step.name.2.at_ ≤ 1000000 := by
    have := (l1.gr (k := 0) (gr_name s.step) (by decide)).at_
    omega
  have C := hide (fun w h => rname_any b s.step vn vx (.slice va s.toks.length vc) line w h L1.out)
  clear l1 _hs0
  generalize s.step.name = q at *
  have H := hide h
  unfold rend
  rw [hqt]
  clear h hl
  generalize hT : s.now = T at *
  have HT := hide hT
  clear hT
  simp only [List.mem_cons, List.not_mem_nil, or_false, wVar, wChan] at hb
  by_cases hend : q.2.at_ < s.toks.length
  · rw [if_pos hend]
    generalize s.toks.length = n at *
    rcases hb with rfl | rfl
    all_goals
      go_enter Tryz.func129, Tryz.ntmps129
      go_wp2_with (first | (go_at_call 127; refine (now_any _ _ _ _ _ _ _ H.out.rd L0.out).mono ?_; rw [HT.out]; rintro e wx ⟨rfl, nd, rfl⟩) | (go_at_call 187; refine (C.out _ (H.out.drewN nd).step.rd).mono ?_; rintro e w1 ⟨rfl, r1, f1⟩; have q1 := (H.out.drewN nd).step.turn r1 f1; have n31 := q1.n3; have nz1 := q1.nz; have c2e : ∀ v, (w1.setCell ⟨nb, 3, none⟩ v).cell? ⟨b, 2, none⟩ = some (.slice va n vc) := (fun v => cell_at (at_setCell_other q1.rd.blk q1.ne.symm _ _) 2); have c3e : ∀ v, (w1.setCell ⟨nb, 3, none⟩ v).cell? ⟨b, 3, none⟩ = some (.int .i64 q.2.at_) := (fun v => cell_at (at_setCell_other q1.rd.blk q1.ne.symm _ _) 3); have Q1 := hide q1; have F1 := hide f1; clear r1 f1 q1))
      go_region
      go_wp2_with (go_at_call 125; refine (wrong_any _ _ _ _ _ _ _ _ (Q1.out.setM q.1).drew.rd).mono ?_; rintro e w4 ⟨rfl, h4', f4⟩; have r4 := (Q1.out.setM q.1).drew.turn h4' f4; have R4 := hide r4; have F4 := hide f4; clear h4' r4 f4)
      go_end0
      exact ⟨rfl, vx, R4.out, (((((FrY.refl _ _ _ _).drewN nd).setB 3 _).trans F1.out.weak.y (.inl rfl)).setN 3 _).drew.trans F4.out.weak.y (.inl rfl), .inl rfl⟩
  · rw [if_neg hend]
    generalize s.toks.length = n at *
    rcases hb with rfl | rfl
    all_goals
      go_enter Tryz.func129, Tryz.ntmps129
      go_wp2_with (first | (go_at_call 127; refine (now_any _ _ _ _ _ _ _ H.out.rd L0.out).mono ?_; rw [HT.out]; rintro e wx ⟨rfl, nd, rfl⟩) | (go_at_call 187; refine (C.out _ (H.out.drewN nd).step.rd).mono ?_; rintro e w1 ⟨rfl, r1, f1⟩; have q1 := (H.out.drewN nd).step.turn r1 f1; have n31 := q1.n3; have nz1 := q1.nz; have c2e : ∀ v, (w1.setCell ⟨nb, 3, none⟩ v).cell? ⟨b, 2, none⟩ = some (.slice va n vc) := (fun v => cell_at (at_setCell_other q1.rd.blk q1.ne.symm _ _) 2); have c3e : ∀ v, (w1.setCell ⟨nb, 3, none⟩ v).cell? ⟨b, 3, none⟩ = some (.int .i64 q.2.at_) := (fun v => cell_at (at_setCell_other q1.rd.blk q1.ne.symm _ _) 3); have Q1 := hide q1; have F1 := hide f1; clear r1 f1 q1))
      go_region
      go_wp2_with fail
      go_end0
      exact ⟨rfl, vx, (Q1.out.setM q.1).drew, (((((FrY.refl _ _ _ _).drewN nd).setB 3 _).trans F1.out.weak.y (.inl rfl)).setN 3 _).drew, .inl rfl⟩

theorem gr_source (s : XR) : Gr 1 s (rsource s).2 := by
  unfold rsource
  split
  · exact gr_step s
  · exact gr_name s
theorem gr_read (ex : Option Nat) (s : XR) : Gr 3 s (rread ex s).2 := ((gr_source s).trans (gr_must _ _)).trans (gr_name _)
theorem gr_over (s : XR) : Gr 200 s (rover s).2 := by
  unfold rover
  split
  · exact (gr_read _ _).le (by omega)
  · exact (((gr_expr 4 s).trans (gr_must _ _)).trans (gr_read _ _)).le (by decide)

set_option maxRecDepth 20000 in
set_option maxHeartbeats 8000000 in
theorem rest_on (b nb : Nat) (s : XR) (vn vx vt : Value) (line no : Int) (d : Nat) (w : World) (h : RNAt w b nb s vn vx vt line s.now no d [] [] (-1)) (hl : Lim s 400) (hs0 : s.nest = 0) (hb : s.now ∈ [wOn]) :
    Calls Tryz.prog 129 #[.pointer (some ⟨b, 0, none⟩), .pointer (some ⟨nb, 0, none⟩)] w fun e w' => e = .returned (.tuple #[]) ∧ RNPost b nb vn vt line no d w vx (rover s.step).1 (rend (rover s.step).2) w' := by
  have ht := hl.toks
  have ha := hl.at_
  obtain ⟨va, vc, rfl⟩ := ownsRow_len h.rd.toks
  have c3 := h.rd.c3; have fz := h.rd.fz
  have n0s : ∀ nd v, ((w.drewN nd).setCell ⟨b, 3, none⟩ v).cell? ⟨nb, 0, none⟩ = some (.string ⟨s.now.toArray⟩) := fun nd v => cell_at (at_setCell_other (h.drewN nd).nd h.ne _ _) 0
  have L0 := hide (hl.gr (k := 0) (Gr.refl _) (by omega))
  have l1 := hl.gr (k := 399) (gr_step s) (by omega)
  have hov := gr_over s.step
  have hqt : (rover s.step).2.toks = s.toks := hov.toks
  have hqa : (rover s.step).2.at_ ≤ 1000000 := by
    have := (l1.gr (k := 0) hov (by decide)).at_
    omega
  have C := hide (fun w h => over_any b nb s.step vn vx (.slice va s.toks.length vc) line no d w h (l1.gr (Gr.refl _) (by omega)) hs0)
  clear l1 hov
  generalize rover s.step = q at *
  have H := hide h
  unfold rend
  rw [hqt]
  clear h hl hs0
  generalize hT : s.now = T at *
  have HT := hide hT
  clear hT
  simp only [List.mem_cons, List.not_mem_nil, or_false, wOn] at hb
  by_cases hend : q.2.at_ < s.toks.length
  · rw [if_pos hend]
    generalize s.toks.length = n at *
    subst hb
    all_goals
      go_enter Tryz.func129, Tryz.ntmps129
      go_wp2_with (first | (go_at_call 127; refine (now_any _ _ _ _ _ _ _ H.out.rd L0.out).mono ?_; rw [HT.out]; rintro e wx ⟨rfl, nd, rfl⟩) | (go_at_call 188; refine (C.out _ (H.out.drewN nd).step).mono ?_; rintro e w1 ⟨rfl, vx1, q1, f1, n1⟩; have c2e := q1.rd.c2; have c3e := q1.rd.c3; have Q1 := hide q1; have F1 := hide f1; have N1 := hide n1; clear q1 f1 n1))
      go_region
      go_wp2_with (go_at_call 125; refine (wrong_any _ _ _ _ _ _ _ _ Q1.out.drew.rd).mono ?_; rintro e w4 ⟨rfl, h4', f4⟩; have r4 := Q1.out.drew.turn h4' f4; have R4 := hide r4; have F4 := hide f4; clear h4' r4 f4)
      go_end0
      exact ⟨rfl, vx1, R4.out, ((((FrY.refl _ _ _ _).drewN nd).setB 3 _).trans F1.out (.inl rfl)).drew.trans F4.out.weak.y (.inl rfl), new_le N1.out (FrY.size (((FrY.refl b nb none w).drewN nd).setB 3 _))⟩
  · rw [if_neg hend]
    generalize s.toks.length = n at *
    subst hb
    all_goals
      go_enter Tryz.func129, Tryz.ntmps129
      go_wp2_with (first | (go_at_call 127; refine (now_any _ _ _ _ _ _ _ H.out.rd L0.out).mono ?_; rw [HT.out]; rintro e wx ⟨rfl, nd, rfl⟩) | (go_at_call 188; refine (C.out _ (H.out.drewN nd).step).mono ?_; rintro e w1 ⟨rfl, vx1, q1, f1, n1⟩; have c2e := q1.rd.c2; have c3e := q1.rd.c3; have Q1 := hide q1; have F1 := hide f1; have N1 := hide n1; clear q1 f1 n1))
      go_region
      go_wp2_with fail
      go_end0
      exact ⟨rfl, vx1, Q1.out.drew, ((((FrY.refl _ _ _ _).drewN nd).setB 3 _).trans F1.out (.inl rfl)).drew, new_le N1.out (FrY.size (((FrY.refl b nb none w).drewN nd).setB 3 _))⟩
end Go.Proofs.YtnhidaamfnjdjaaGreatDoor
