import Derived.Test.YtnhidaamfnjdjaaGreatDoorRhF
namespace Go.Proofs.YtnhidaamfnjdjaaGreatDoor
open Go.RowKit Go.Maps

theorem rName_park (t : Bs) (w : World) (hl : t.length ≤ 1000) {R : World → Prop} (hR : R w) : Calls Tryz.prog 189 #[.string ⟨t.toArray⟩] w fun e w' => e = .returned (.bool (rnameB t)) ∧ R w' := by
  refine (rName_any t w hl).mono ?_
  rintro e w' ⟨rfl, rfl⟩
  exact ⟨rfl, hR⟩
theorem beq_words {t : Bs} (h : t ∉ bareW ++ askW ++ [wVar, wChan, wOn]) : (t == [115, 107, 105, 112]) = false ∧ (t == [115, 116, 111, 112]) = false ∧ (t == [115, 101, 113]) = false ∧ (t == [112, 97, 114]) = false ∧ (t == [112, 114, 105]) = false ∧ (t == [105, 102]) = false ∧ (t == [97, 108, 116]) = false ∧
    (t == [119, 97, 105, 116]) = false ∧ (t == [119, 104, 105, 108, 101]) = false ∧ (t == [119, 104, 101, 110]) = false ∧ (t == [118, 97, 114]) = false ∧ (t == [99, 104, 97, 110]) = false ∧ (t == [111, 110]) = false := by
  have key : ∀ x ∈ bareW ++ askW ++ [wVar, wChan, wOn], (t == x) = false := by
    intro x hx
    rw [beq_eq_false_iff_ne]
    intro e
    exact h (e ▸ hx)
  exact ⟨key _ (by decide), key _ (by decide), key _ (by decide), key _ (by decide), key _ (by decide), key _ (by decide), key _ (by decide), key _ (by decide), key _ (by decide), key _ (by decide), key _ (by decide), key _ (by decide), key _ (by decide)⟩

set_option maxRecDepth 20000 in
set_option maxHeartbeats 8000000 in
theorem rest_set (b nb : Nat) (s : XR) (vn vx vt : Value) (line no : Int) (d : Nat) (w : World) (h : RNAt w b nb s vn vx vt line s.now no d [] [] (-1)) (hl : Lim s 400) (hs0 : s.nest = 0) (hb : s.now ∉ bareW ++ askW ++ [wVar, wChan, wOn]) (hK : s.step.now = [58, 61]) (hkn : rnameB s.now = true) :
    Calls Tryz.prog 129 #[.pointer (some ⟨b, 0, none⟩), .pointer (some ⟨nb, 0, none⟩)] w fun e w' => e = .returned (.tuple #[]) ∧ RNPost b nb vn vt line no d w vx ⟨s.step.now, s.now, [], some (rexpr 4 s.step.step).1⟩ (rend (rexpr 4 s.step.step).2) w' := by
  have ht := hl.toks
  have ha := hl.at_
  obtain ⟨va, vc, rfl⟩ := ownsRow_len h.rd.toks
  have c3 := h.rd.c3; have fz := h.rd.fz
  have n0s : ∀ nd v, ((w.drewN nd).setCell ⟨b, 3, none⟩ v).cell? ⟨nb, 0, none⟩ = some (.string ⟨s.now.toArray⟩) := fun nd v => cell_at (at_setCell_other (h.drewN nd).nd h.ne _ _) 0
  have L0 := hide (hl.gr (k := 0) (Gr.refl _) (by omega))
  have nzs : ∀ nd v i, ((w.drewN nd).setCell ⟨b, 3, none⟩ v).frozen? ⟨nb, i, none⟩ = false := fun nd v i => frozen_at (at_setCell_other (h.drewN nd).nd h.ne _ _) i
  have c3f : ∀ nd nd2 v v', ((((w.drewN nd).setCell ⟨b, 3, none⟩ v).drewN nd2).setCell ⟨nb, 0, none⟩ v').cell? ⟨b, 3, none⟩ = some v := fun nd nd2 v v' => cell_at (at_setCell_other (at_setCell (h.drewN nd).rd.blk 3 v) h.ne.symm 0 v') 3
  have fzf : ∀ nd nd2 v v' i, ((((w.drewN nd).setCell ⟨b, 3, none⟩ v).drewN nd2).setCell ⟨nb, 0, none⟩ v').frozen? ⟨b, i, none⟩ = false := fun nd nd2 v v' i => frozen_at (at_setCell_other (at_setCell (h.drewN nd).rd.blk 3 v) h.ne.symm 0 v') i
  have hTl := hl.now
  have l1 := hl.gr (k := 399) (gr_step s) (by omega)
  have l2 := l1.gr (k := 398) (gr_step s.step) (by omega)
  have L1 := hide (l1.gr (k := 0) (Gr.refl _) (by omega))
  have hw0 := beq_words hb
  obtain ⟨b1, b2, b3, b4, b5, b6, b7, b8, b9, b10, b11, b12, b13⟩ := hw0
  have C := hide (fun w h => rexpr_any b s.step.step vn vx (.slice va s.toks.length vc) line w h (l2.gr (Gr.refl _) (by omega)) hs0)
  have hqt : (rexpr 4 s.step.step).2.toks = s.toks := (gr_expr 4 s.step.step).toks
  have hqa : (rexpr 4 s.step.step).2.at_ ≤ 1000000 := by
    have := (l2.gr (k := 0) (gr_expr 4 s.step.step) (by decide)).at_
    omega
  clear l1 l2
  generalize rexpr 4 s.step.step = q at *
  have H := hide h
  unfold rend
  rw [hqt]
  clear h hl hs0 hb
  have HB := hide hkn
  clear hkn
  generalize hT : s.now = T at *
  have HT := hide hT
  clear hT
  generalize hKK : s.step.now = K at *
  have HK := hide hKK
  clear hKK
  subst hK
  by_cases hend : q.2.at_ < s.toks.length
  · rw [if_pos hend]
    generalize s.toks.length = n at *
    go_enter Tryz.func129, Tryz.ntmps129
    go_wp2_with (first | (go_at_call 127; refine (now_any _ _ _ _ _ _ _ H.out.rd L0.out).mono ?_; rw [HT.out]; rintro e wx ⟨rfl, nd, rfl⟩; clear L0) | (go_at_call 127; refine (now_any _ _ _ _ _ _ _ (H.out.drewN nd).step.rd L1.out).mono ?_; rw [HK.out]; rintro e wx ⟨rfl, nd2, rfl⟩) | (go_at_call 189; refine (rName_park T _ hTl (R := fun w' => RNAt w' b nb s.step.step vn vx (.slice va n vc) line [58, 61] no d [] [] (-1) ∧ FrY b nb vx.ownBlock w w') ⟨(((H.out.drewN nd).step.drewN nd2).setK [58, 61]).step, (((((FrY.refl _ _ _ _).drewN nd).setB 3 _).drewN nd2).setN 0 _).setB 3 _⟩).mono ?_; rw [HB.out]; rintro e w5 ⟨rfl, r5, f5⟩; have m0 := r5.n0; have m3 := r5.n3; have m4 := r5.n4; have mz := r5.nz; have d2 := r5.rd.c2; have d3 := r5.rd.c3; have R5 := hide r5; have F5 := hide f5; clear r5 f5) | (go_at_call 186; refine (C.out _ (R5.out.setM T).rd).mono ?_; rintro e w1 ⟨rfl, vx1, r1, f1, n1⟩; have q1 := (R5.out.setM T).call r1 f1 n1; have n51 := q1.n5; have nz1 := q1.nz; have c2e : ∀ v, (w1.setCell ⟨nb, 5, none⟩ v).cell? ⟨b, 2, none⟩ = some (.slice va n vc) := (fun v => cell_at (at_setCell_other q1.rd.blk q1.ne.symm _ _) 2); have c3e : ∀ v, (w1.setCell ⟨nb, 5, none⟩ v).cell? ⟨b, 3, none⟩ = some (.int .i64 q.2.at_) := (fun v => cell_at (at_setCell_other q1.rd.blk q1.ne.symm _ _) 3); have Q1 := hide q1; have F1 := hide f1; have N1 := hide n1; clear r1 f1 n1 q1))
    go_region
    go_wp2_with (go_at_call 125; refine (wrong_any _ _ _ _ _ _ _ _ (Q1.out.setE q.1).drew.rd).mono ?_; rintro e w4 ⟨rfl, h4', f4⟩; have r4 := (Q1.out.setE q.1).drew.turn h4' f4; have R4 := hide r4; have F4 := hide f4; clear h4' r4 f4)
    go_end0
    exact ⟨rfl, vx1, R4.out, (((F5.out.setN 3 _).trans F1.out.y (.inl rfl)).setN 5 _).drew.trans F4.out.weak.y (.inl rfl), new_le N1.out ((F5.out.setN _ _).size)⟩
  · rw [if_neg hend]
    generalize s.toks.length = n at *
    go_enter Tryz.func129, Tryz.ntmps129
    go_wp2_with (first | (go_at_call 127; refine (now_any _ _ _ _ _ _ _ H.out.rd L0.out).mono ?_; rw [HT.out]; rintro e wx ⟨rfl, nd, rfl⟩; clear L0) | (go_at_call 127; refine (now_any _ _ _ _ _ _ _ (H.out.drewN nd).step.rd L1.out).mono ?_; rw [HK.out]; rintro e wx ⟨rfl, nd2, rfl⟩) | (go_at_call 189; refine (rName_park T _ hTl (R := fun w' => RNAt w' b nb s.step.step vn vx (.slice va n vc) line [58, 61] no d [] [] (-1) ∧ FrY b nb vx.ownBlock w w') ⟨(((H.out.drewN nd).step.drewN nd2).setK [58, 61]).step, (((((FrY.refl _ _ _ _).drewN nd).setB 3 _).drewN nd2).setN 0 _).setB 3 _⟩).mono ?_; rw [HB.out]; rintro e w5 ⟨rfl, r5, f5⟩; have m0 := r5.n0; have m3 := r5.n3; have m4 := r5.n4; have mz := r5.nz; have d2 := r5.rd.c2; have d3 := r5.rd.c3; have R5 := hide r5; have F5 := hide f5; clear r5 f5) | (go_at_call 186; refine (C.out _ (R5.out.setM T).rd).mono ?_; rintro e w1 ⟨rfl, vx1, r1, f1, n1⟩; have q1 := (R5.out.setM T).call r1 f1 n1; have n51 := q1.n5; have nz1 := q1.nz; have c2e : ∀ v, (w1.setCell ⟨nb, 5, none⟩ v).cell? ⟨b, 2, none⟩ = some (.slice va n vc) := (fun v => cell_at (at_setCell_other q1.rd.blk q1.ne.symm _ _) 2); have c3e : ∀ v, (w1.setCell ⟨nb, 5, none⟩ v).cell? ⟨b, 3, none⟩ = some (.int .i64 q.2.at_) := (fun v => cell_at (at_setCell_other q1.rd.blk q1.ne.symm _ _) 3); have Q1 := hide q1; have F1 := hide f1; have N1 := hide n1; clear r1 f1 n1 q1))
    go_region
    go_wp2_with fail
    go_end0
    exact ⟨rfl, vx1, (Q1.out.setE q.1).drew, (((F5.out.setN 3 _).trans F1.out.y (.inl rfl)).setN 5 _).drew, new_le N1.out ((F5.out.setN _ _).size)⟩

set_option maxRecDepth 20000 in
set_option maxHeartbeats 8000000 in
theorem rest_write (b nb : Nat) (s : XR) (vn vx vt : Value) (line no : Int) (d : Nat) (w : World) (h : RNAt w b nb s vn vx vt line s.now no d [] [] (-1)) (hl : Lim s 400) (hs0 : s.nest = 0) (hb : s.now ∉ bareW ++ askW ++ [wVar, wChan, wOn]) (hK : s.step.now = [33]) (hkn : rnameB s.now = true) :
    Calls Tryz.prog 129 #[.pointer (some ⟨b, 0, none⟩), .pointer (some ⟨nb, 0, none⟩)] w fun e w' => e = .returned (.tuple #[]) ∧ RNPost b nb vn vt line no d w vx ⟨s.step.now, [], s.now, some (rexpr 4 s.step.step).1⟩ (rend (rexpr 4 s.step.step).2) w' := by
  have ht := hl.toks
  have ha := hl.at_
  obtain ⟨va, vc, rfl⟩ := ownsRow_len h.rd.toks
  have c3 := h.rd.c3; have fz := h.rd.fz
  have n0s : ∀ nd v, ((w.drewN nd).setCell ⟨b, 3, none⟩ v).cell? ⟨nb, 0, none⟩ = some (.string ⟨s.now.toArray⟩) := fun nd v => cell_at (at_setCell_other (h.drewN nd).nd h.ne _ _) 0
  have L0 := hide (hl.gr (k := 0) (Gr.refl _) (by omega))
  have nzs : ∀ nd v i, ((w.drewN nd).setCell ⟨b, 3, none⟩ v).frozen? ⟨nb, i, none⟩ = false := fun nd v i => frozen_at (at_setCell_other (h.drewN nd).nd h.ne _ _) i
  have c3f : ∀ nd nd2 v v', ((((w.drewN nd).setCell ⟨b, 3, none⟩ v).drewN nd2).setCell ⟨nb, 0, none⟩ v').cell? ⟨b, 3, none⟩ = some v := fun nd nd2 v v' => cell_at (at_setCell_other (at_setCell (h.drewN nd).rd.blk 3 v) h.ne.symm 0 v') 3
  have fzf : ∀ nd nd2 v v' i, ((((w.drewN nd).setCell ⟨b, 3, none⟩ v).drewN nd2).setCell ⟨nb, 0, none⟩ v').frozen? ⟨b, i, none⟩ = false := fun nd nd2 v v' i => frozen_at (at_setCell_other (at_setCell (h.drewN nd).rd.blk 3 v) h.ne.symm 0 v') i
  have hTl := hl.now
  have l1 := hl.gr (k := 399) (gr_step s) (by omega)
  have l2 := l1.gr (k := 398) (gr_step s.step) (by omega)
  have L1 := hide (l1.gr (k := 0) (Gr.refl _) (by omega))
  have hw0 := beq_words hb
  obtain ⟨b1, b2, b3, b4, b5, b6, b7, b8, b9, b10, b11, b12, b13⟩ := hw0
  have C := hide (fun w h => rexpr_any b s.step.step vn vx (.slice va s.toks.length vc) line w h (l2.gr (Gr.refl _) (by omega)) hs0)
  have hqt : (rexpr 4 s.step.step).2.toks = s.toks := (gr_expr 4 s.step.step).toks
  have hqa : (rexpr 4 s.step.step).2.at_ ≤ 1000000 := by
    have := (l2.gr (k := 0) (gr_expr 4 s.step.step) (by decide)).at_
    omega
  clear l1 l2
  generalize rexpr 4 s.step.step = q at *
  have H := hide h
  unfold rend
  rw [hqt]
  clear h hl hs0 hb
  have HB := hide hkn
  clear hkn
  generalize hT : s.now = T at *
  have HT := hide hT
  clear hT
  generalize hKK : s.step.now = K at *
  have HK := hide hKK
  clear hKK
  subst hK
  by_cases hend : q.2.at_ < s.toks.length
  · rw [if_pos hend]
    generalize s.toks.length = n at *
    go_enter Tryz.func129, Tryz.ntmps129
    go_wp2_with (first | (go_at_call 127; refine (now_any _ _ _ _ _ _ _ H.out.rd L0.out).mono ?_; rw [HT.out]; rintro e wx ⟨rfl, nd, rfl⟩; clear L0) | (go_at_call 127; refine (now_any _ _ _ _ _ _ _ (H.out.drewN nd).step.rd L1.out).mono ?_; rw [HK.out]; rintro e wx ⟨rfl, nd2, rfl⟩) | (go_at_call 189; refine (rName_park T _ hTl (R := fun w' => RNAt w' b nb s.step.step vn vx (.slice va n vc) line [33] no d [] [] (-1) ∧ FrY b nb vx.ownBlock w w') ⟨(((H.out.drewN nd).step.drewN nd2).setK [33]).step, (((((FrY.refl _ _ _ _).drewN nd).setB 3 _).drewN nd2).setN 0 _).setB 3 _⟩).mono ?_; rw [HB.out]; rintro e w5 ⟨rfl, r5, f5⟩; have m0 := r5.n0; have m3 := r5.n3; have m4 := r5.n4; have mz := r5.nz; have d2 := r5.rd.c2; have d3 := r5.rd.c3; have R5 := hide r5; have F5 := hide f5; clear r5 f5) | (go_at_call 186; refine (C.out _ (R5.out.setO T).rd).mono ?_; rintro e w1 ⟨rfl, vx1, r1, f1, n1⟩; have q1 := (R5.out.setO T).call r1 f1 n1; have n51 := q1.n5; have nz1 := q1.nz; have c2e : ∀ v, (w1.setCell ⟨nb, 5, none⟩ v).cell? ⟨b, 2, none⟩ = some (.slice va n vc) := (fun v => cell_at (at_setCell_other q1.rd.blk q1.ne.symm _ _) 2); have c3e : ∀ v, (w1.setCell ⟨nb, 5, none⟩ v).cell? ⟨b, 3, none⟩ = some (.int .i64 q.2.at_) := (fun v => cell_at (at_setCell_other q1.rd.blk q1.ne.symm _ _) 3); have Q1 := hide q1; have F1 := hide f1; have N1 := hide n1; clear r1 f1 n1 q1))
    go_region
    go_wp2_with (go_at_call 125; refine (wrong_any _ _ _ _ _ _ _ _ (Q1.out.setE q.1).drew.rd).mono ?_; rintro e w4 ⟨rfl, h4', f4⟩; have r4 := (Q1.out.setE q.1).drew.turn h4' f4; have R4 := hide r4; have F4 := hide f4; clear h4' r4 f4)
    go_end0
    exact ⟨rfl, vx1, R4.out, (((F5.out.setN 4 _).trans F1.out.y (.inl rfl)).setN 5 _).drew.trans F4.out.weak.y (.inl rfl), new_le N1.out ((F5.out.setN _ _).size)⟩
  · rw [if_neg hend]
    generalize s.toks.length = n at *
    go_enter Tryz.func129, Tryz.ntmps129
    go_wp2_with (first | (go_at_call 127; refine (now_any _ _ _ _ _ _ _ H.out.rd L0.out).mono ?_; rw [HT.out]; rintro e wx ⟨rfl, nd, rfl⟩; clear L0) | (go_at_call 127; refine (now_any _ _ _ _ _ _ _ (H.out.drewN nd).step.rd L1.out).mono ?_; rw [HK.out]; rintro e wx ⟨rfl, nd2, rfl⟩) | (go_at_call 189; refine (rName_park T _ hTl (R := fun w' => RNAt w' b nb s.step.step vn vx (.slice va n vc) line [33] no d [] [] (-1) ∧ FrY b nb vx.ownBlock w w') ⟨(((H.out.drewN nd).step.drewN nd2).setK [33]).step, (((((FrY.refl _ _ _ _).drewN nd).setB 3 _).drewN nd2).setN 0 _).setB 3 _⟩).mono ?_; rw [HB.out]; rintro e w5 ⟨rfl, r5, f5⟩; have m0 := r5.n0; have m3 := r5.n3; have m4 := r5.n4; have mz := r5.nz; have d2 := r5.rd.c2; have d3 := r5.rd.c3; have R5 := hide r5; have F5 := hide f5; clear r5 f5) | (go_at_call 186; refine (C.out _ (R5.out.setO T).rd).mono ?_; rintro e w1 ⟨rfl, vx1, r1, f1, n1⟩; have q1 := (R5.out.setO T).call r1 f1 n1; have n51 := q1.n5; have nz1 := q1.nz; have c2e : ∀ v, (w1.setCell ⟨nb, 5, none⟩ v).cell? ⟨b, 2, none⟩ = some (.slice va n vc) := (fun v => cell_at (at_setCell_other q1.rd.blk q1.ne.symm _ _) 2); have c3e : ∀ v, (w1.setCell ⟨nb, 5, none⟩ v).cell? ⟨b, 3, none⟩ = some (.int .i64 q.2.at_) := (fun v => cell_at (at_setCell_other q1.rd.blk q1.ne.symm _ _) 3); have Q1 := hide q1; have F1 := hide f1; have N1 := hide n1; clear r1 f1 n1 q1))
    go_region
    go_wp2_with fail
    go_end0
    exact ⟨rfl, vx1, (Q1.out.setE q.1).drew, (((F5.out.setN 4 _).trans F1.out.y (.inl rfl)).setN 5 _).drew, new_le N1.out ((F5.out.setN _ _).size)⟩

set_option maxRecDepth 20000 in
set_option maxHeartbeats 8000000 in
theorem rest_writeo (b nb : Nat) (s : XR) (vn vx vt : Value) (line no : Int) (d : Nat) (w : World) (h : RNAt w b nb s vn vx vt line s.now no d [] [] (-1)) (hl : Lim s 400) (hs0 : s.nest = 0) (hb : s.now ∉ bareW ++ askW ++ [wVar, wChan, wOn]) (hK : s.step.now = [33]) (hkn : rnameB s.now = false) (ho : s.now = wOut) :
    Calls Tryz.prog 129 #[.pointer (some ⟨b, 0, none⟩), .pointer (some ⟨nb, 0, none⟩)] w fun e w' => e = .returned (.tuple #[]) ∧ RNPost b nb vn vt line no d w vx ⟨s.step.now, [], s.now, some (rexpr 4 s.step.step).1⟩ (rend (rexpr 4 s.step.step).2) w' := by
  have ht := hl.toks
  have ha := hl.at_
  obtain ⟨va, vc, rfl⟩ := ownsRow_len h.rd.toks
  have c3 := h.rd.c3; have fz := h.rd.fz
  have n0s : ∀ nd v, ((w.drewN nd).setCell ⟨b, 3, none⟩ v).cell? ⟨nb, 0, none⟩ = some (.string ⟨s.now.toArray⟩) := fun nd v => cell_at (at_setCell_other (h.drewN nd).nd h.ne _ _) 0
  have L0 := hide (hl.gr (k := 0) (Gr.refl _) (by omega))
  have nzs : ∀ nd v i, ((w.drewN nd).setCell ⟨b, 3, none⟩ v).frozen? ⟨nb, i, none⟩ = false := fun nd v i => frozen_at (at_setCell_other (h.drewN nd).nd h.ne _ _) i
  have c3f : ∀ nd nd2 v v', ((((w.drewN nd).setCell ⟨b, 3, none⟩ v).drewN nd2).setCell ⟨nb, 0, none⟩ v').cell? ⟨b, 3, none⟩ = some v := fun nd nd2 v v' => cell_at (at_setCell_other (at_setCell (h.drewN nd).rd.blk 3 v) h.ne.symm 0 v') 3
  have fzf : ∀ nd nd2 v v' i, ((((w.drewN nd).setCell ⟨b, 3, none⟩ v).drewN nd2).setCell ⟨nb, 0, none⟩ v').frozen? ⟨b, i, none⟩ = false := fun nd nd2 v v' i => frozen_at (at_setCell_other (at_setCell (h.drewN nd).rd.blk 3 v) h.ne.symm 0 v') i
  have hTl := hl.now
  have l1 := hl.gr (k := 399) (gr_step s) (by omega)
  have l2 := l1.gr (k := 398) (gr_step s.step) (by omega)
  have L1 := hide (l1.gr (k := 0) (Gr.refl _) (by omega))
  have hw0 := beq_words hb
  obtain ⟨b1, b2, b3, b4, b5, b6, b7, b8, b9, b10, b11, b12, b13⟩ := hw0
  have C := hide (fun w h => rexpr_any b s.step.step vn vx (.slice va s.toks.length vc) line w h (l2.gr (Gr.refl _) (by omega)) hs0)
  have hqt : (rexpr 4 s.step.step).2.toks = s.toks := (gr_expr 4 s.step.step).toks
  have hqa : (rexpr 4 s.step.step).2.at_ ≤ 1000000 := by
    have := (l2.gr (k := 0) (gr_expr 4 s.step.step) (by decide)).at_
    omega
  clear l1 l2
  generalize rexpr 4 s.step.step = q at *
  have H := hide h
  unfold rend
  rw [hqt]
  clear h hl hs0 hb
  have eo : (s.now == [111, 117, 116]) = true := by rw [beq_iff_eq]; exact ho
  clear ho
  have HB := hide hkn
  clear hkn
  generalize hT : s.now = T at *
  have HT := hide hT
  clear hT
  generalize hKK : s.step.now = K at *
  have HK := hide hKK
  clear hKK
  subst hK
  by_cases hend : q.2.at_ < s.toks.length
  · rw [if_pos hend]
    generalize s.toks.length = n at *
    go_enter Tryz.func129, Tryz.ntmps129
    go_wp2_with (first | (go_at_call 127; refine (now_any _ _ _ _ _ _ _ H.out.rd L0.out).mono ?_; rw [HT.out]; rintro e wx ⟨rfl, nd, rfl⟩; clear L0) | (go_at_call 127; refine (now_any _ _ _ _ _ _ _ (H.out.drewN nd).step.rd L1.out).mono ?_; rw [HK.out]; rintro e wx ⟨rfl, nd2, rfl⟩) | (go_at_call 189; refine (rName_park T _ hTl (R := fun w' => RNAt w' b nb s.step.step vn vx (.slice va n vc) line [33] no d [] [] (-1) ∧ FrY b nb vx.ownBlock w w') ⟨(((H.out.drewN nd).step.drewN nd2).setK [33]).step, (((((FrY.refl _ _ _ _).drewN nd).setB 3 _).drewN nd2).setN 0 _).setB 3 _⟩).mono ?_; rw [HB.out]; rintro e w5 ⟨rfl, r5, f5⟩; have m0 := r5.n0; have m3 := r5.n3; have m4 := r5.n4; have mz := r5.nz; have d2 := r5.rd.c2; have d3 := r5.rd.c3; have R5 := hide r5; have F5 := hide f5; clear r5 f5) | (go_at_call 186; refine (C.out _ (R5.out.setO T).rd).mono ?_; rintro e w1 ⟨rfl, vx1, r1, f1, n1⟩; have q1 := (R5.out.setO T).call r1 f1 n1; have n51 := q1.n5; have nz1 := q1.nz; have c2e : ∀ v, (w1.setCell ⟨nb, 5, none⟩ v).cell? ⟨b, 2, none⟩ = some (.slice va n vc) := (fun v => cell_at (at_setCell_other q1.rd.blk q1.ne.symm _ _) 2); have c3e : ∀ v, (w1.setCell ⟨nb, 5, none⟩ v).cell? ⟨b, 3, none⟩ = some (.int .i64 q.2.at_) := (fun v => cell_at (at_setCell_other q1.rd.blk q1.ne.symm _ _) 3); have Q1 := hide q1; have F1 := hide f1; have N1 := hide n1; clear r1 f1 n1 q1))
    go_region
    go_wp2_with (go_at_call 125; refine (wrong_any _ _ _ _ _ _ _ _ (Q1.out.setE q.1).drew.rd).mono ?_; rintro e w4 ⟨rfl, h4', f4⟩; have r4 := (Q1.out.setE q.1).drew.turn h4' f4; have R4 := hide r4; have F4 := hide f4; clear h4' r4 f4)
    go_end0
    exact ⟨rfl, vx1, R4.out, (((F5.out.setN 4 _).trans F1.out.y (.inl rfl)).setN 5 _).drew.trans F4.out.weak.y (.inl rfl), new_le N1.out ((F5.out.setN _ _).size)⟩
  · rw [if_neg hend]
    generalize s.toks.length = n at *
    go_enter Tryz.func129, Tryz.ntmps129
    go_wp2_with (first | (go_at_call 127; refine (now_any _ _ _ _ _ _ _ H.out.rd L0.out).mono ?_; rw [HT.out]; rintro e wx ⟨rfl, nd, rfl⟩; clear L0) | (go_at_call 127; refine (now_any _ _ _ _ _ _ _ (H.out.drewN nd).step.rd L1.out).mono ?_; rw [HK.out]; rintro e wx ⟨rfl, nd2, rfl⟩) | (go_at_call 189; refine (rName_park T _ hTl (R := fun w' => RNAt w' b nb s.step.step vn vx (.slice va n vc) line [33] no d [] [] (-1) ∧ FrY b nb vx.ownBlock w w') ⟨(((H.out.drewN nd).step.drewN nd2).setK [33]).step, (((((FrY.refl _ _ _ _).drewN nd).setB 3 _).drewN nd2).setN 0 _).setB 3 _⟩).mono ?_; rw [HB.out]; rintro e w5 ⟨rfl, r5, f5⟩; have m0 := r5.n0; have m3 := r5.n3; have m4 := r5.n4; have mz := r5.nz; have d2 := r5.rd.c2; have d3 := r5.rd.c3; have R5 := hide r5; have F5 := hide f5; clear r5 f5) | (go_at_call 186; refine (C.out _ (R5.out.setO T).rd).mono ?_; rintro e w1 ⟨rfl, vx1, r1, f1, n1⟩; have q1 := (R5.out.setO T).call r1 f1 n1; have n51 := q1.n5; have nz1 := q1.nz; have c2e : ∀ v, (w1.setCell ⟨nb, 5, none⟩ v).cell? ⟨b, 2, none⟩ = some (.slice va n vc) := (fun v => cell_at (at_setCell_other q1.rd.blk q1.ne.symm _ _) 2); have c3e : ∀ v, (w1.setCell ⟨nb, 5, none⟩ v).cell? ⟨b, 3, none⟩ = some (.int .i64 q.2.at_) := (fun v => cell_at (at_setCell_other q1.rd.blk q1.ne.symm _ _) 3); have Q1 := hide q1; have F1 := hide f1; have N1 := hide n1; clear r1 f1 n1 q1))
    go_region
    go_wp2_with fail
    go_end0
    exact ⟨rfl, vx1, (Q1.out.setE q.1).drew, (((F5.out.setN 4 _).trans F1.out.y (.inl rfl)).setN 5 _).drew, new_le N1.out ((F5.out.setN _ _).size)⟩

set_option maxRecDepth 20000 in
set_option maxHeartbeats 8000000 in
theorem rest_read (b nb : Nat) (s : XR) (vn vx vt : Value) (line no : Int) (d : Nat) (w : World) (h : RNAt w b nb s vn vx vt line s.now no d [] [] (-1)) (hl : Lim s 400) (_hs0 : s.nest = 0) (hb : s.now ∉ bareW ++ askW ++ [wVar, wChan, wOn]) (hK : s.step.now = [63]) (hkn : rnameB s.now = true) :
    Calls Tryz.prog 129 #[.pointer (some ⟨b, 0, none⟩), .pointer (some ⟨nb, 0, none⟩)] w fun e w' => e = .returned (.tuple #[]) ∧ RNPost b nb vn vt line no d w vx ⟨s.step.now, s.step.step.name.1, s.now, none⟩ (rend s.step.step.name.2) w' := by
  have ht := hl.toks
  have ha := hl.at_
  obtain ⟨va, vc, rfl⟩ := ownsRow_len h.rd.toks
  have c3 := h.rd.c3; have fz := h.rd.fz
  have n0s : ∀ nd v, ((w.drewN nd).setCell ⟨b, 3, none⟩ v).cell? ⟨nb, 0, none⟩ = some (.string ⟨s.now.toArray⟩) := fun nd v => cell_at (at_setCell_other (h.drewN nd).nd h.ne _ _) 0
  have L0 := hide (hl.gr (k := 0) (Gr.refl _) (by omega))
  have nzs : ∀ nd v i, ((w.drewN nd).setCell ⟨b, 3, none⟩ v).frozen? ⟨nb, i, none⟩ = false := fun nd v i => frozen_at (at_setCell_other (h.drewN nd).nd h.ne _ _) i
  have c3f : ∀ nd nd2 v v', ((((w.drewN nd).setCell ⟨b, 3, none⟩ v).drewN nd2).setCell ⟨nb, 0, none⟩ v').cell? ⟨b, 3, none⟩ = some v := fun nd nd2 v v' => cell_at (at_setCell_other (at_setCell (h.drewN nd).rd.blk 3 v) h.ne.symm 0 v') 3
  have fzf : ∀ nd nd2 v v' i, ((((w.drewN nd).setCell ⟨b, 3, none⟩ v).drewN nd2).setCell ⟨nb, 0, none⟩ v').frozen? ⟨b, i, none⟩ = false := fun nd nd2 v v' i => frozen_at (at_setCell_other (at_setCell (h.drewN nd).rd.blk 3 v) h.ne.symm 0 v') i
  have hTl := hl.now
  have l1 := hl.gr (k := 399) (gr_step s) (by omega)
  have l2 := l1.gr (k := 398) (gr_step s.step) (by omega)
  have L1 := hide (l1.gr (k := 0) (Gr.refl _) (by omega))
  have hw0 := beq_words hb
  obtain ⟨b1, b2, b3, b4, b5, b6, b7, b8, b9, b10, b11, b12, b13⟩ := hw0
  have LN := hide (l2.gr (k := 1) (Gr.refl _) (by omega))
  have C := hide (fun w h => rname_any b s.step.step vn vx (.slice va s.toks.length vc) line w h LN.out)
  have hqt : s.step.step.name.2.toks = s.toks := (gr_name s.step.step).toks
  have hqa : s.step.step.name.2.at_ ≤ 1000000 := by
    have := (l2.gr (k := 0) (gr_name s.step.step) (by decide)).at_
    omega
  clear l1 l2
  generalize s.step.step.name = q at *
  have H := hide h
  unfold rend
  rw [hqt]
  clear h hl _hs0 hb
  have HB := hide hkn
  clear hkn
  generalize hT : s.now = T at *
  have HT := hide hT
  clear hT
  generalize hKK : s.step.now = K at *
  have HK := hide hKK
  clear hKK
  subst hK
  by_cases hend : q.2.at_ < s.toks.length
  · rw [if_pos hend]
    generalize s.toks.length = n at *
    go_enter Tryz.func129, Tryz.ntmps129
    go_wp2_with (first | (go_at_call 127; refine (now_any _ _ _ _ _ _ _ H.out.rd L0.out).mono ?_; rw [HT.out]; rintro e wx ⟨rfl, nd, rfl⟩; clear L0) | (go_at_call 127; refine (now_any _ _ _ _ _ _ _ (H.out.drewN nd).step.rd L1.out).mono ?_; rw [HK.out]; rintro e wx ⟨rfl, nd2, rfl⟩) | (go_at_call 189; refine (rName_park T _ hTl (R := fun w' => RNAt w' b nb s.step.step vn vx (.slice va n vc) line [63] no d [] [] (-1) ∧ FrY b nb vx.ownBlock w w') ⟨(((H.out.drewN nd).step.drewN nd2).setK [63]).step, (((((FrY.refl _ _ _ _).drewN nd).setB 3 _).drewN nd2).setN 0 _).setB 3 _⟩).mono ?_; rw [HB.out]; rintro e w5 ⟨rfl, r5, f5⟩; have m0 := r5.n0; have m3 := r5.n3; have m4 := r5.n4; have mz := r5.nz; have d2 := r5.rd.c2; have d3 := r5.rd.c3; have R5 := hide r5; have F5 := hide f5; clear r5 f5) | (go_at_call 187; refine (C.out _ (R5.out.setO T).rd).mono ?_; rintro e w1 ⟨rfl, r1, f1⟩; have q1 := (R5.out.setO T).turn r1 f1; have n31 := q1.n3; have nz1 := q1.nz; have c2e : ∀ v, (w1.setCell ⟨nb, 3, none⟩ v).cell? ⟨b, 2, none⟩ = some (.slice va n vc) := (fun v => cell_at (at_setCell_other q1.rd.blk q1.ne.symm _ _) 2); have c3e : ∀ v, (w1.setCell ⟨nb, 3, none⟩ v).cell? ⟨b, 3, none⟩ = some (.int .i64 q.2.at_) := (fun v => cell_at (at_setCell_other q1.rd.blk q1.ne.symm _ _) 3); have Q1 := hide q1; have F1 := hide f1; clear r1 f1 q1))
    go_region
    go_wp2_with (go_at_call 125; refine (wrong_any _ _ _ _ _ _ _ _ (Q1.out.setM q.1).drew.rd).mono ?_; rintro e w4 ⟨rfl, h4', f4⟩; have r4 := (Q1.out.setM q.1).drew.turn h4' f4; have R4 := hide r4; have F4 := hide f4; clear h4' r4 f4)
    go_end0
    exact ⟨rfl, vx, R4.out, (((F5.out.setN 4 _).trans F1.out.weak.y (.inl rfl)).setN 3 _).drew.trans F4.out.weak.y (.inl rfl), .inl rfl⟩
  · rw [if_neg hend]
    generalize s.toks.length = n at *
    go_enter Tryz.func129, Tryz.ntmps129
    go_wp2_with (first | (go_at_call 127; refine (now_any _ _ _ _ _ _ _ H.out.rd L0.out).mono ?_; rw [HT.out]; rintro e wx ⟨rfl, nd, rfl⟩; clear L0) | (go_at_call 127; refine (now_any _ _ _ _ _ _ _ (H.out.drewN nd).step.rd L1.out).mono ?_; rw [HK.out]; rintro e wx ⟨rfl, nd2, rfl⟩) | (go_at_call 189; refine (rName_park T _ hTl (R := fun w' => RNAt w' b nb s.step.step vn vx (.slice va n vc) line [63] no d [] [] (-1) ∧ FrY b nb vx.ownBlock w w') ⟨(((H.out.drewN nd).step.drewN nd2).setK [63]).step, (((((FrY.refl _ _ _ _).drewN nd).setB 3 _).drewN nd2).setN 0 _).setB 3 _⟩).mono ?_; rw [HB.out]; rintro e w5 ⟨rfl, r5, f5⟩; have m0 := r5.n0; have m3 := r5.n3; have m4 := r5.n4; have mz := r5.nz; have d2 := r5.rd.c2; have d3 := r5.rd.c3; have R5 := hide r5; have F5 := hide f5; clear r5 f5) | (go_at_call 187; refine (C.out _ (R5.out.setO T).rd).mono ?_; rintro e w1 ⟨rfl, r1, f1⟩; have q1 := (R5.out.setO T).turn r1 f1; have n31 := q1.n3; have nz1 := q1.nz; have c2e : ∀ v, (w1.setCell ⟨nb, 3, none⟩ v).cell? ⟨b, 2, none⟩ = some (.slice va n vc) := (fun v => cell_at (at_setCell_other q1.rd.blk q1.ne.symm _ _) 2); have c3e : ∀ v, (w1.setCell ⟨nb, 3, none⟩ v).cell? ⟨b, 3, none⟩ = some (.int .i64 q.2.at_) := (fun v => cell_at (at_setCell_other q1.rd.blk q1.ne.symm _ _) 3); have Q1 := hide q1; have F1 := hide f1; clear r1 f1 q1))
    go_region
    go_wp2_with fail
    go_end0
    exact ⟨rfl, vx, (Q1.out.setM q.1).drew, (((F5.out.setN 4 _).trans F1.out.weak.y (.inl rfl)).setN 3 _).drew, .inl rfl⟩

set_option maxRecDepth 20000 in
set_option maxHeartbeats 8000000 in
theorem rest_readi (b nb : Nat) (s : XR) (vn vx vt : Value) (line no : Int) (d : Nat) (w : World) (h : RNAt w b nb s vn vx vt line s.now no d [] [] (-1)) (hl : Lim s 400) (_hs0 : s.nest = 0) (hb : s.now ∉ bareW ++ askW ++ [wVar, wChan, wOn]) (hK : s.step.now = [63]) (hkn : rnameB s.now = false) (ho : s.now = wIn) :
    Calls Tryz.prog 129 #[.pointer (some ⟨b, 0, none⟩), .pointer (some ⟨nb, 0, none⟩)] w fun e w' => e = .returned (.tuple #[]) ∧ RNPost b nb vn vt line no d w vx ⟨s.step.now, s.step.step.name.1, s.now, none⟩ (rend s.step.step.name.2) w' := by
  have ht := hl.toks
  have ha := hl.at_
  obtain ⟨va, vc, rfl⟩ := ownsRow_len h.rd.toks
  have c3 := h.rd.c3; have fz := h.rd.fz
  have n0s : ∀ nd v, ((w.drewN nd).setCell ⟨b, 3, none⟩ v).cell? ⟨nb, 0, none⟩ = some (.string ⟨s.now.toArray⟩) := fun nd v => cell_at (at_setCell_other (h.drewN nd).nd h.ne _ _) 0
  have L0 := hide (hl.gr (k := 0) (Gr.refl _) (by omega))
  have nzs : ∀ nd v i, ((w.drewN nd).setCell ⟨b, 3, none⟩ v).frozen? ⟨nb, i, none⟩ = false := fun nd v i => frozen_at (at_setCell_other (h.drewN nd).nd h.ne _ _) i
  have c3f : ∀ nd nd2 v v', ((((w.drewN nd).setCell ⟨b, 3, none⟩ v).drewN nd2).setCell ⟨nb, 0, none⟩ v').cell? ⟨b, 3, none⟩ = some v := fun nd nd2 v v' => cell_at (at_setCell_other (at_setCell (h.drewN nd).rd.blk 3 v) h.ne.symm 0 v') 3
  have fzf : ∀ nd nd2 v v' i, ((((w.drewN nd).setCell ⟨b, 3, none⟩ v).drewN nd2).setCell ⟨nb, 0, none⟩ v').frozen? ⟨b, i, none⟩ = false := fun nd nd2 v v' i => frozen_at (at_setCell_other (at_setCell (h.drewN nd).rd.blk 3 v) h.ne.symm 0 v') i
  have hTl := hl.now
  have l1 := hl.gr (k := 399) (gr_step s) (by omega)
  have l2 := l1.gr (k := 398) (gr_step s.step) (by omega)
  have L1 := hide (l1.gr (k := 0) (Gr.refl _) (by omega))
  have hw0 := beq_words hb
  obtain ⟨b1, b2, b3, b4, b5, b6, b7, b8, b9, b10, b11, b12, b13⟩ := hw0
  have LN := hide (l2.gr (k := 1) (Gr.refl _) (by omega))
  have C := hide (fun w h => rname_any b s.step.step vn vx (.slice va s.toks.length vc) line w h LN.out)
  have hqt : s.step.step.name.2.toks = s.toks := (gr_name s.step.step).toks
  have hqa : s.step.step.name.2.at_ ≤ 1000000 := by
    have := (l2.gr (k := 0) (gr_name s.step.step) (by decide)).at_
    omega
  clear l1 l2
  generalize s.step.step.name = q at *
  have H := hide h
  unfold rend
  rw [hqt]
  clear h hl _hs0 hb
  have eo : (s.now == [105, 110]) = true := by rw [beq_iff_eq]; exact ho
  clear ho
  have HB := hide hkn
  clear hkn
  generalize hT : s.now = T at *
  have HT := hide hT
  clear hT
  generalize hKK : s.step.now = K at *
  have HK := hide hKK
  clear hKK
  subst hK
  by_cases hend : q.2.at_ < s.toks.length
  · rw [if_pos hend]
    generalize s.toks.length = n at *
    go_enter Tryz.func129, Tryz.ntmps129
    go_wp2_with (first | (go_at_call 127; refine (now_any _ _ _ _ _ _ _ H.out.rd L0.out).mono ?_; rw [HT.out]; rintro e wx ⟨rfl, nd, rfl⟩; clear L0) | (go_at_call 127; refine (now_any _ _ _ _ _ _ _ (H.out.drewN nd).step.rd L1.out).mono ?_; rw [HK.out]; rintro e wx ⟨rfl, nd2, rfl⟩) | (go_at_call 189; refine (rName_park T _ hTl (R := fun w' => RNAt w' b nb s.step.step vn vx (.slice va n vc) line [63] no d [] [] (-1) ∧ FrY b nb vx.ownBlock w w') ⟨(((H.out.drewN nd).step.drewN nd2).setK [63]).step, (((((FrY.refl _ _ _ _).drewN nd).setB 3 _).drewN nd2).setN 0 _).setB 3 _⟩).mono ?_; rw [HB.out]; rintro e w5 ⟨rfl, r5, f5⟩; have m0 := r5.n0; have m3 := r5.n3; have m4 := r5.n4; have mz := r5.nz; have d2 := r5.rd.c2; have d3 := r5.rd.c3; have R5 := hide r5; have F5 := hide f5; clear r5 f5) | (go_at_call 187; refine (C.out _ (R5.out.setO T).rd).mono ?_; rintro e w1 ⟨rfl, r1, f1⟩; have q1 := (R5.out.setO T).turn r1 f1; have n31 := q1.n3; have nz1 := q1.nz; have c2e : ∀ v, (w1.setCell ⟨nb, 3, none⟩ v).cell? ⟨b, 2, none⟩ = some (.slice va n vc) := (fun v => cell_at (at_setCell_other q1.rd.blk q1.ne.symm _ _) 2); have c3e : ∀ v, (w1.setCell ⟨nb, 3, none⟩ v).cell? ⟨b, 3, none⟩ = some (.int .i64 q.2.at_) := (fun v => cell_at (at_setCell_other q1.rd.blk q1.ne.symm _ _) 3); have Q1 := hide q1; have F1 := hide f1; clear r1 f1 q1))
    go_region
    go_wp2_with (go_at_call 125; refine (wrong_any _ _ _ _ _ _ _ _ (Q1.out.setM q.1).drew.rd).mono ?_; rintro e w4 ⟨rfl, h4', f4⟩; have r4 := (Q1.out.setM q.1).drew.turn h4' f4; have R4 := hide r4; have F4 := hide f4; clear h4' r4 f4)
    go_end0
    exact ⟨rfl, vx, R4.out, (((F5.out.setN 4 _).trans F1.out.weak.y (.inl rfl)).setN 3 _).drew.trans F4.out.weak.y (.inl rfl), .inl rfl⟩
  · rw [if_neg hend]
    generalize s.toks.length = n at *
    go_enter Tryz.func129, Tryz.ntmps129
    go_wp2_with (first | (go_at_call 127; refine (now_any _ _ _ _ _ _ _ H.out.rd L0.out).mono ?_; rw [HT.out]; rintro e wx ⟨rfl, nd, rfl⟩; clear L0) | (go_at_call 127; refine (now_any _ _ _ _ _ _ _ (H.out.drewN nd).step.rd L1.out).mono ?_; rw [HK.out]; rintro e wx ⟨rfl, nd2, rfl⟩) | (go_at_call 189; refine (rName_park T _ hTl (R := fun w' => RNAt w' b nb s.step.step vn vx (.slice va n vc) line [63] no d [] [] (-1) ∧ FrY b nb vx.ownBlock w w') ⟨(((H.out.drewN nd).step.drewN nd2).setK [63]).step, (((((FrY.refl _ _ _ _).drewN nd).setB 3 _).drewN nd2).setN 0 _).setB 3 _⟩).mono ?_; rw [HB.out]; rintro e w5 ⟨rfl, r5, f5⟩; have m0 := r5.n0; have m3 := r5.n3; have m4 := r5.n4; have mz := r5.nz; have d2 := r5.rd.c2; have d3 := r5.rd.c3; have R5 := hide r5; have F5 := hide f5; clear r5 f5) | (go_at_call 187; refine (C.out _ (R5.out.setO T).rd).mono ?_; rintro e w1 ⟨rfl, r1, f1⟩; have q1 := (R5.out.setO T).turn r1 f1; have n31 := q1.n3; have nz1 := q1.nz; have c2e : ∀ v, (w1.setCell ⟨nb, 3, none⟩ v).cell? ⟨b, 2, none⟩ = some (.slice va n vc) := (fun v => cell_at (at_setCell_other q1.rd.blk q1.ne.symm _ _) 2); have c3e : ∀ v, (w1.setCell ⟨nb, 3, none⟩ v).cell? ⟨b, 3, none⟩ = some (.int .i64 q.2.at_) := (fun v => cell_at (at_setCell_other q1.rd.blk q1.ne.symm _ _) 3); have Q1 := hide q1; have F1 := hide f1; clear r1 f1 q1))
    go_region
    go_wp2_with fail
    go_end0
    exact ⟨rfl, vx, (Q1.out.setM q.1).drew, (((F5.out.setN 4 _).trans F1.out.weak.y (.inl rfl)).setN 3 _).drew, .inl rfl⟩

set_option maxRecDepth 20000 in
set_option maxHeartbeats 8000000 in
theorem rest_bada (b nb : Nat) (s : XR) (vn vx vt : Value) (line no : Int) (d : Nat) (w : World) (h : RNAt w b nb s vn vx vt line s.now no d [] [] (-1)) (hl : Lim s 400) (_hs0 : s.nest = 0) (hb : s.now ∉ bareW ++ askW ++ [wVar, wChan, wOn]) (hK : s.step.now = [58, 61]) (hkn : rnameB s.now = false) :
    Calls Tryz.prog 129 #[.pointer (some ⟨b, 0, none⟩), .pointer (some ⟨nb, 0, none⟩)] w fun e w' => e = .returned (.tuple #[]) ∧ RNPost b nb vn vt line no d w vx ⟨s.step.now, [], [], none⟩ (rend (s.step.step.wrong 2)) w' := by
  have ht := hl.toks
  have ha := hl.at_
  obtain ⟨va, vc, rfl⟩ := ownsRow_len h.rd.toks
  have c3 := h.rd.c3; have fz := h.rd.fz
  have n0s : ∀ nd v, ((w.drewN nd).setCell ⟨b, 3, none⟩ v).cell? ⟨nb, 0, none⟩ = some (.string ⟨s.now.toArray⟩) := fun nd v => cell_at (at_setCell_other (h.drewN nd).nd h.ne _ _) 0
  have L0 := hide (hl.gr (k := 0) (Gr.refl _) (by omega))
  have nzs : ∀ nd v i, ((w.drewN nd).setCell ⟨b, 3, none⟩ v).frozen? ⟨nb, i, none⟩ = false := fun nd v i => frozen_at (at_setCell_other (h.drewN nd).nd h.ne _ _) i
  have c3f : ∀ nd nd2 v v', ((((w.drewN nd).setCell ⟨b, 3, none⟩ v).drewN nd2).setCell ⟨nb, 0, none⟩ v').cell? ⟨b, 3, none⟩ = some v := fun nd nd2 v v' => cell_at (at_setCell_other (at_setCell (h.drewN nd).rd.blk 3 v) h.ne.symm 0 v') 3
  have fzf : ∀ nd nd2 v v' i, ((((w.drewN nd).setCell ⟨b, 3, none⟩ v).drewN nd2).setCell ⟨nb, 0, none⟩ v').frozen? ⟨b, i, none⟩ = false := fun nd nd2 v v' i => frozen_at (at_setCell_other (at_setCell (h.drewN nd).rd.blk 3 v) h.ne.symm 0 v') i
  have hTl := hl.now
  have l1 := hl.gr (k := 399) (gr_step s) (by omega)
  have l2 := l1.gr (k := 398) (gr_step s.step) (by omega)
  have L1 := hide (l1.gr (k := 0) (Gr.refl _) (by omega))
  have hw0 := beq_words hb
  obtain ⟨b1, b2, b3, b4, b5, b6, b7, b8, b9, b10, b11, b12, b13⟩ := hw0
  have hqt : (s.step.step.wrong 2).toks = s.toks := (gr_wrong s.step.step 2).toks
  have hqa : (s.step.step.wrong 2).at_ ≤ 1000000 := by
    have := (l2.gr (k := 0) (gr_wrong s.step.step 2) (by decide)).at_
    omega
  clear l1 l2
  have H := hide h
  unfold rend
  rw [hqt]
  clear h hl _hs0 hb
  have HB := hide hkn
  clear hkn
  generalize hT : s.now = T at *
  have HT := hide hT
  clear hT
  generalize hKK : s.step.now = K at *
  have HK := hide hKK
  clear hKK
  subst hK
  by_cases hend : (s.step.step.wrong 2).at_ < s.toks.length
  · rw [if_pos hend]
    generalize s.toks.length = n at *
    go_enter Tryz.func129, Tryz.ntmps129
    go_wp2_with (first | (go_at_call 127; refine (now_any _ _ _ _ _ _ _ H.out.rd L0.out).mono ?_; rw [HT.out]; rintro e wx ⟨rfl, nd, rfl⟩; clear L0) | (go_at_call 127; refine (now_any _ _ _ _ _ _ _ (H.out.drewN nd).step.rd L1.out).mono ?_; rw [HK.out]; rintro e wx ⟨rfl, nd2, rfl⟩) | (go_at_call 189; refine (rName_park T _ hTl (R := fun w' => RNAt w' b nb s.step.step vn vx (.slice va n vc) line [58, 61] no d [] [] (-1) ∧ FrY b nb vx.ownBlock w w') ⟨(((H.out.drewN nd).step.drewN nd2).setK [58, 61]).step, (((((FrY.refl _ _ _ _).drewN nd).setB 3 _).drewN nd2).setN 0 _).setB 3 _⟩).mono ?_; rw [HB.out]; rintro e w5 ⟨rfl, r5, f5⟩; have m0 := r5.n0; have m3 := r5.n3; have m4 := r5.n4; have mz := r5.nz; have d2 := r5.rd.c2; have d3 := r5.rd.c3; have R5 := hide r5; have F5 := hide f5; clear r5 f5) | (go_at_call 125; refine (wrong_any _ _ _ _ _ _ _ _ R5.out.rd).mono ?_; rintro e w1 ⟨rfl, r1, f1⟩; have q1 := R5.out.turn r1 f1; have c2e := q1.rd.c2; have c3e := q1.rd.c3; have Q1 := hide q1; have F1 := hide f1; clear r1 f1 q1))
    go_region
    go_wp2_with (go_at_call 125; refine (wrong_any _ _ _ _ _ _ _ _ Q1.out.drew.rd).mono ?_; rintro e w4 ⟨rfl, h4', f4⟩; have r4 := Q1.out.drew.turn h4' f4; have R4 := hide r4; have F4 := hide f4; clear h4' r4 f4)
    go_end0
    exact ⟨rfl, vx, R4.out, (F5.out.trans F1.out.weak.y (.inl rfl)).drew.trans F4.out.weak.y (.inl rfl), .inl rfl⟩
  · rw [if_neg hend]
    generalize s.toks.length = n at *
    go_enter Tryz.func129, Tryz.ntmps129
    go_wp2_with (first | (go_at_call 127; refine (now_any _ _ _ _ _ _ _ H.out.rd L0.out).mono ?_; rw [HT.out]; rintro e wx ⟨rfl, nd, rfl⟩; clear L0) | (go_at_call 127; refine (now_any _ _ _ _ _ _ _ (H.out.drewN nd).step.rd L1.out).mono ?_; rw [HK.out]; rintro e wx ⟨rfl, nd2, rfl⟩) | (go_at_call 189; refine (rName_park T _ hTl (R := fun w' => RNAt w' b nb s.step.step vn vx (.slice va n vc) line [58, 61] no d [] [] (-1) ∧ FrY b nb vx.ownBlock w w') ⟨(((H.out.drewN nd).step.drewN nd2).setK [58, 61]).step, (((((FrY.refl _ _ _ _).drewN nd).setB 3 _).drewN nd2).setN 0 _).setB 3 _⟩).mono ?_; rw [HB.out]; rintro e w5 ⟨rfl, r5, f5⟩; have m0 := r5.n0; have m3 := r5.n3; have m4 := r5.n4; have mz := r5.nz; have d2 := r5.rd.c2; have d3 := r5.rd.c3; have R5 := hide r5; have F5 := hide f5; clear r5 f5) | (go_at_call 125; refine (wrong_any _ _ _ _ _ _ _ _ R5.out.rd).mono ?_; rintro e w1 ⟨rfl, r1, f1⟩; have q1 := R5.out.turn r1 f1; have c2e := q1.rd.c2; have c3e := q1.rd.c3; have Q1 := hide q1; have F1 := hide f1; clear r1 f1 q1))
    go_region
    go_wp2_with fail
    go_end0
    exact ⟨rfl, vx, Q1.out.drew, (F5.out.trans F1.out.weak.y (.inl rfl)).drew, .inl rfl⟩

set_option maxRecDepth 20000 in
set_option maxHeartbeats 8000000 in
theorem rest_badb (b nb : Nat) (s : XR) (vn vx vt : Value) (line no : Int) (d : Nat) (w : World) (h : RNAt w b nb s vn vx vt line s.now no d [] [] (-1)) (hl : Lim s 400) (_hs0 : s.nest = 0) (hb : s.now ∉ bareW ++ askW ++ [wVar, wChan, wOn]) (hK : s.step.now = [33]) (hkn : rnameB s.now = false) (ho : s.now ≠ wOut) :
    Calls Tryz.prog 129 #[.pointer (some ⟨b, 0, none⟩), .pointer (some ⟨nb, 0, none⟩)] w fun e w' => e = .returned (.tuple #[]) ∧ RNPost b nb vn vt line no d w vx ⟨s.step.now, [], [], none⟩ (rend (s.step.step.wrong 2)) w' := by
  have ht := hl.toks
  have ha := hl.at_
  obtain ⟨va, vc, rfl⟩ := ownsRow_len h.rd.toks
  have c3 := h.rd.c3; have fz := h.rd.fz
  have n0s : ∀ nd v, ((w.drewN nd).setCell ⟨b, 3, none⟩ v).cell? ⟨nb, 0, none⟩ = some (.string ⟨s.now.toArray⟩) := fun nd v => cell_at (at_setCell_other (h.drewN nd).nd h.ne _ _) 0
  have L0 := hide (hl.gr (k := 0) (Gr.refl _) (by omega))
  have nzs : ∀ nd v i, ((w.drewN nd).setCell ⟨b, 3, none⟩ v).frozen? ⟨nb, i, none⟩ = false := fun nd v i => frozen_at (at_setCell_other (h.drewN nd).nd h.ne _ _) i
  have c3f : ∀ nd nd2 v v', ((((w.drewN nd).setCell ⟨b, 3, none⟩ v).drewN nd2).setCell ⟨nb, 0, none⟩ v').cell? ⟨b, 3, none⟩ = some v := fun nd nd2 v v' => cell_at (at_setCell_other (at_setCell (h.drewN nd).rd.blk 3 v) h.ne.symm 0 v') 3
  have fzf : ∀ nd nd2 v v' i, ((((w.drewN nd).setCell ⟨b, 3, none⟩ v).drewN nd2).setCell ⟨nb, 0, none⟩ v').frozen? ⟨b, i, none⟩ = false := fun nd nd2 v v' i => frozen_at (at_setCell_other (at_setCell (h.drewN nd).rd.blk 3 v) h.ne.symm 0 v') i
  have hTl := hl.now
  have l1 := hl.gr (k := 399) (gr_step s) (by omega)
  have l2 := l1.gr (k := 398) (gr_step s.step) (by omega)
  have L1 := hide (l1.gr (k := 0) (Gr.refl _) (by omega))
  have hw0 := beq_words hb
  obtain ⟨b1, b2, b3, b4, b5, b6, b7, b8, b9, b10, b11, b12, b13⟩ := hw0
  have hqt : (s.step.step.wrong 2).toks = s.toks := (gr_wrong s.step.step 2).toks
  have hqa : (s.step.step.wrong 2).at_ ≤ 1000000 := by
    have := (l2.gr (k := 0) (gr_wrong s.step.step 2) (by decide)).at_
    omega
  clear l1 l2
  have H := hide h
  unfold rend
  rw [hqt]
  clear h hl _hs0 hb
  have eo : (s.now == [111, 117, 116]) = false := by rw [beq_eq_false_iff_ne]; exact ho
  clear ho
  have HB := hide hkn
  clear hkn
  generalize hT : s.now = T at *
  have HT := hide hT
  clear hT
  generalize hKK : s.step.now = K at *
  have HK := hide hKK
  clear hKK
  subst hK
  by_cases hend : (s.step.step.wrong 2).at_ < s.toks.length
  · rw [if_pos hend]
    generalize s.toks.length = n at *
    go_enter Tryz.func129, Tryz.ntmps129
    go_wp2_with (first | (go_at_call 127; refine (now_any _ _ _ _ _ _ _ H.out.rd L0.out).mono ?_; rw [HT.out]; rintro e wx ⟨rfl, nd, rfl⟩; clear L0) | (go_at_call 127; refine (now_any _ _ _ _ _ _ _ (H.out.drewN nd).step.rd L1.out).mono ?_; rw [HK.out]; rintro e wx ⟨rfl, nd2, rfl⟩) | (go_at_call 189; refine (rName_park T _ hTl (R := fun w' => RNAt w' b nb s.step.step vn vx (.slice va n vc) line [33] no d [] [] (-1) ∧ FrY b nb vx.ownBlock w w') ⟨(((H.out.drewN nd).step.drewN nd2).setK [33]).step, (((((FrY.refl _ _ _ _).drewN nd).setB 3 _).drewN nd2).setN 0 _).setB 3 _⟩).mono ?_; rw [HB.out]; rintro e w5 ⟨rfl, r5, f5⟩; have m0 := r5.n0; have m3 := r5.n3; have m4 := r5.n4; have mz := r5.nz; have d2 := r5.rd.c2; have d3 := r5.rd.c3; have R5 := hide r5; have F5 := hide f5; clear r5 f5) | (go_at_call 125; refine (wrong_any _ _ _ _ _ _ _ _ R5.out.rd).mono ?_; rintro e w1 ⟨rfl, r1, f1⟩; have q1 := R5.out.turn r1 f1; have c2e := q1.rd.c2; have c3e := q1.rd.c3; have Q1 := hide q1; have F1 := hide f1; clear r1 f1 q1))
    go_region
    go_wp2_with (go_at_call 125; refine (wrong_any _ _ _ _ _ _ _ _ Q1.out.drew.rd).mono ?_; rintro e w4 ⟨rfl, h4', f4⟩; have r4 := Q1.out.drew.turn h4' f4; have R4 := hide r4; have F4 := hide f4; clear h4' r4 f4)
    go_end0
    exact ⟨rfl, vx, R4.out, (F5.out.trans F1.out.weak.y (.inl rfl)).drew.trans F4.out.weak.y (.inl rfl), .inl rfl⟩
  · rw [if_neg hend]
    generalize s.toks.length = n at *
    go_enter Tryz.func129, Tryz.ntmps129
    go_wp2_with (first | (go_at_call 127; refine (now_any _ _ _ _ _ _ _ H.out.rd L0.out).mono ?_; rw [HT.out]; rintro e wx ⟨rfl, nd, rfl⟩; clear L0) | (go_at_call 127; refine (now_any _ _ _ _ _ _ _ (H.out.drewN nd).step.rd L1.out).mono ?_; rw [HK.out]; rintro e wx ⟨rfl, nd2, rfl⟩) | (go_at_call 189; refine (rName_park T _ hTl (R := fun w' => RNAt w' b nb s.step.step vn vx (.slice va n vc) line [33] no d [] [] (-1) ∧ FrY b nb vx.ownBlock w w') ⟨(((H.out.drewN nd).step.drewN nd2).setK [33]).step, (((((FrY.refl _ _ _ _).drewN nd).setB 3 _).drewN nd2).setN 0 _).setB 3 _⟩).mono ?_; rw [HB.out]; rintro e w5 ⟨rfl, r5, f5⟩; have m0 := r5.n0; have m3 := r5.n3; have m4 := r5.n4; have mz := r5.nz; have d2 := r5.rd.c2; have d3 := r5.rd.c3; have R5 := hide r5; have F5 := hide f5; clear r5 f5) | (go_at_call 125; refine (wrong_any _ _ _ _ _ _ _ _ R5.out.rd).mono ?_; rintro e w1 ⟨rfl, r1, f1⟩; have q1 := R5.out.turn r1 f1; have c2e := q1.rd.c2; have c3e := q1.rd.c3; have Q1 := hide q1; have F1 := hide f1; clear r1 f1 q1))
    go_region
    go_wp2_with fail
    go_end0
    exact ⟨rfl, vx, Q1.out.drew, (F5.out.trans F1.out.weak.y (.inl rfl)).drew, .inl rfl⟩

set_option maxRecDepth 20000 in
set_option maxHeartbeats 8000000 in
theorem rest_badc (b nb : Nat) (s : XR) (vn vx vt : Value) (line no : Int) (d : Nat) (w : World) (h : RNAt w b nb s vn vx vt line s.now no d [] [] (-1)) (hl : Lim s 400) (_hs0 : s.nest = 0) (hb : s.now ∉ bareW ++ askW ++ [wVar, wChan, wOn]) (hK : s.step.now = [63]) (hkn : rnameB s.now = false) (ho : s.now ≠ wIn) :
    Calls Tryz.prog 129 #[.pointer (some ⟨b, 0, none⟩), .pointer (some ⟨nb, 0, none⟩)] w fun e w' => e = .returned (.tuple #[]) ∧ RNPost b nb vn vt line no d w vx ⟨s.step.now, [], [], none⟩ (rend (s.step.step.wrong 2)) w' := by
  have ht := hl.toks
  have ha := hl.at_
  obtain ⟨va, vc, rfl⟩ := ownsRow_len h.rd.toks
  have c3 := h.rd.c3; have fz := h.rd.fz
  have n0s : ∀ nd v, ((w.drewN nd).setCell ⟨b, 3, none⟩ v).cell? ⟨nb, 0, none⟩ = some (.string ⟨s.now.toArray⟩) := fun nd v => cell_at (at_setCell_other (h.drewN nd).nd h.ne _ _) 0
  have L0 := hide (hl.gr (k := 0) (Gr.refl _) (by omega))
  have nzs : ∀ nd v i, ((w.drewN nd).setCell ⟨b, 3, none⟩ v).frozen? ⟨nb, i, none⟩ = false := fun nd v i => frozen_at (at_setCell_other (h.drewN nd).nd h.ne _ _) i
  have c3f : ∀ nd nd2 v v', ((((w.drewN nd).setCell ⟨b, 3, none⟩ v).drewN nd2).setCell ⟨nb, 0, none⟩ v').cell? ⟨b, 3, none⟩ = some v := fun nd nd2 v v' => cell_at (at_setCell_other (at_setCell (h.drewN nd).rd.blk 3 v) h.ne.symm 0 v') 3
  have fzf : ∀ nd nd2 v v' i, ((((w.drewN nd).setCell ⟨b, 3, none⟩ v).drewN nd2).setCell ⟨nb, 0, none⟩ v').frozen? ⟨b, i, none⟩ = false := fun nd nd2 v v' i => frozen_at (at_setCell_other (at_setCell (h.drewN nd).rd.blk 3 v) h.ne.symm 0 v') i
  have hTl := hl.now
  have l1 := hl.gr (k := 399) (gr_step s) (by omega)
  have l2 := l1.gr (k := 398) (gr_step s.step) (by omega)
  have L1 := hide (l1.gr (k := 0) (Gr.refl _) (by omega))
  have hw0 := beq_words hb
  obtain ⟨b1, b2, b3, b4, b5, b6, b7, b8, b9, b10, b11, b12, b13⟩ := hw0
  have hqt : (s.step.step.wrong 2).toks = s.toks := (gr_wrong s.step.step 2).toks
  have hqa : (s.step.step.wrong 2).at_ ≤ 1000000 := by
    have := (l2.gr (k := 0) (gr_wrong s.step.step 2) (by decide)).at_
    omega
  clear l1 l2
  have H := hide h
  unfold rend
  rw [hqt]
  clear h hl _hs0 hb
  have eo : (s.now == [105, 110]) = false := by rw [beq_eq_false_iff_ne]; exact ho
  clear ho
  have HB := hide hkn
  clear hkn
  generalize hT : s.now = T at *
  have HT := hide hT
  clear hT
  generalize hKK : s.step.now = K at *
  have HK := hide hKK
  clear hKK
  subst hK
  by_cases hend : (s.step.step.wrong 2).at_ < s.toks.length
  · rw [if_pos hend]
    generalize s.toks.length = n at *
    go_enter Tryz.func129, Tryz.ntmps129
    go_wp2_with (first | (go_at_call 127; refine (now_any _ _ _ _ _ _ _ H.out.rd L0.out).mono ?_; rw [HT.out]; rintro e wx ⟨rfl, nd, rfl⟩; clear L0) | (go_at_call 127; refine (now_any _ _ _ _ _ _ _ (H.out.drewN nd).step.rd L1.out).mono ?_; rw [HK.out]; rintro e wx ⟨rfl, nd2, rfl⟩) | (go_at_call 189; refine (rName_park T _ hTl (R := fun w' => RNAt w' b nb s.step.step vn vx (.slice va n vc) line [63] no d [] [] (-1) ∧ FrY b nb vx.ownBlock w w') ⟨(((H.out.drewN nd).step.drewN nd2).setK [63]).step, (((((FrY.refl _ _ _ _).drewN nd).setB 3 _).drewN nd2).setN 0 _).setB 3 _⟩).mono ?_; rw [HB.out]; rintro e w5 ⟨rfl, r5, f5⟩; have m0 := r5.n0; have m3 := r5.n3; have m4 := r5.n4; have mz := r5.nz; have d2 := r5.rd.c2; have d3 := r5.rd.c3; have R5 := hide r5; have F5 := hide f5; clear r5 f5) | (go_at_call 125; refine (wrong_any _ _ _ _ _ _ _ _ R5.out.rd).mono ?_; rintro e w1 ⟨rfl, r1, f1⟩; have q1 := R5.out.turn r1 f1; have c2e := q1.rd.c2; have c3e := q1.rd.c3; have Q1 := hide q1; have F1 := hide f1; clear r1 f1 q1))
    go_region
    go_wp2_with (go_at_call 125; refine (wrong_any _ _ _ _ _ _ _ _ Q1.out.drew.rd).mono ?_; rintro e w4 ⟨rfl, h4', f4⟩; have r4 := Q1.out.drew.turn h4' f4; have R4 := hide r4; have F4 := hide f4; clear h4' r4 f4)
    go_end0
    exact ⟨rfl, vx, R4.out, (F5.out.trans F1.out.weak.y (.inl rfl)).drew.trans F4.out.weak.y (.inl rfl), .inl rfl⟩
  · rw [if_neg hend]
    generalize s.toks.length = n at *
    go_enter Tryz.func129, Tryz.ntmps129
    go_wp2_with (first | (go_at_call 127; refine (now_any _ _ _ _ _ _ _ H.out.rd L0.out).mono ?_; rw [HT.out]; rintro e wx ⟨rfl, nd, rfl⟩; clear L0) | (go_at_call 127; refine (now_any _ _ _ _ _ _ _ (H.out.drewN nd).step.rd L1.out).mono ?_; rw [HK.out]; rintro e wx ⟨rfl, nd2, rfl⟩) | (go_at_call 189; refine (rName_park T _ hTl (R := fun w' => RNAt w' b nb s.step.step vn vx (.slice va n vc) line [63] no d [] [] (-1) ∧ FrY b nb vx.ownBlock w w') ⟨(((H.out.drewN nd).step.drewN nd2).setK [63]).step, (((((FrY.refl _ _ _ _).drewN nd).setB 3 _).drewN nd2).setN 0 _).setB 3 _⟩).mono ?_; rw [HB.out]; rintro e w5 ⟨rfl, r5, f5⟩; have m0 := r5.n0; have m3 := r5.n3; have m4 := r5.n4; have mz := r5.nz; have d2 := r5.rd.c2; have d3 := r5.rd.c3; have R5 := hide r5; have F5 := hide f5; clear r5 f5) | (go_at_call 125; refine (wrong_any _ _ _ _ _ _ _ _ R5.out.rd).mono ?_; rintro e w1 ⟨rfl, r1, f1⟩; have q1 := R5.out.turn r1 f1; have c2e := q1.rd.c2; have c3e := q1.rd.c3; have Q1 := hide q1; have F1 := hide f1; clear r1 f1 q1))
    go_region
    go_wp2_with fail
    go_end0
    exact ⟨rfl, vx, Q1.out.drew, (F5.out.trans F1.out.weak.y (.inl rfl)).drew, .inl rfl⟩

set_option maxRecDepth 20000 in
set_option maxHeartbeats 8000000 in
theorem rest_badd (b nb : Nat) (s : XR) (vn vx vt : Value) (line no : Int) (d : Nat) (w : World) (h : RNAt w b nb s vn vx vt line s.now no d [] [] (-1)) (hl : Lim s 400) (_hs0 : s.nest = 0) (hb : s.now ∉ bareW ++ askW ++ [wVar, wChan, wOn]) (kn : Bool) (hkn : rnameB s.now = kn) (h1 : s.step.now ≠ [58, 61]) (h2 : s.step.now ≠ [33]) (h3 : s.step.now ≠ [63]) :
    Calls Tryz.prog 129 #[.pointer (some ⟨b, 0, none⟩), .pointer (some ⟨nb, 0, none⟩)] w fun e w' => e = .returned (.tuple #[]) ∧ RNPost b nb vn vt line no d w vx ⟨s.step.now, [], [], none⟩ (rend (s.step.step.wrong 2)) w' := by
  have ht := hl.toks
  have ha := hl.at_
  obtain ⟨va, vc, rfl⟩ := ownsRow_len h.rd.toks
  have c3 := h.rd.c3; have fz := h.rd.fz
  have n0s : ∀ nd v, ((w.drewN nd).setCell ⟨b, 3, none⟩ v).cell? ⟨nb, 0, none⟩ = some (.string ⟨s.now.toArray⟩) := fun nd v => cell_at (at_setCell_other (h.drewN nd).nd h.ne _ _) 0
  have L0 := hide (hl.gr (k := 0) (Gr.refl _) (by omega))
  have nzs : ∀ nd v i, ((w.drewN nd).setCell ⟨b, 3, none⟩ v).frozen? ⟨nb, i, none⟩ = false := fun nd v i => frozen_at (at_setCell_other (h.drewN nd).nd h.ne _ _) i
  have c3f : ∀ nd nd2 v v', ((((w.drewN nd).setCell ⟨b, 3, none⟩ v).drewN nd2).setCell ⟨nb, 0, none⟩ v').cell? ⟨b, 3, none⟩ = some v := fun nd nd2 v v' => cell_at (at_setCell_other (at_setCell (h.drewN nd).rd.blk 3 v) h.ne.symm 0 v') 3
  have fzf : ∀ nd nd2 v v' i, ((((w.drewN nd).setCell ⟨b, 3, none⟩ v).drewN nd2).setCell ⟨nb, 0, none⟩ v').frozen? ⟨b, i, none⟩ = false := fun nd nd2 v v' i => frozen_at (at_setCell_other (at_setCell (h.drewN nd).rd.blk 3 v) h.ne.symm 0 v') i
  have hTl := hl.now
  have l1 := hl.gr (k := 399) (gr_step s) (by omega)
  have l2 := l1.gr (k := 398) (gr_step s.step) (by omega)
  have L1 := hide (l1.gr (k := 0) (Gr.refl _) (by omega))
  have hw0 := beq_words hb
  obtain ⟨b1, b2, b3, b4, b5, b6, b7, b8, b9, b10, b11, b12, b13⟩ := hw0
  have hqt : (s.step.step.wrong 2).toks = s.toks := (gr_wrong s.step.step 2).toks
  have hqa : (s.step.step.wrong 2).at_ ≤ 1000000 := by
    have := (l2.gr (k := 0) (gr_wrong s.step.step 2) (by decide)).at_
    omega
  clear l1 l2
  have H := hide h
  unfold rend
  rw [hqt]
  clear h hl _hs0 hb
  have k1 := beq_eq_false_iff_ne.2 h1; have k2 := beq_eq_false_iff_ne.2 h2; have k3 := beq_eq_false_iff_ne.2 h3
  clear h1 h2 h3
  have HB := hide hkn
  clear hkn
  generalize hT : s.now = T at *
  have HT := hide hT
  clear hT
  generalize hKK : s.step.now = K at *
  have HK := hide hKK
  clear hKK
  by_cases hend : (s.step.step.wrong 2).at_ < s.toks.length
  · rw [if_pos hend]
    generalize s.toks.length = n at *
    go_enter Tryz.func129, Tryz.ntmps129
    go_wp2_with (first | (go_at_call 127; refine (now_any _ _ _ _ _ _ _ H.out.rd L0.out).mono ?_; rw [HT.out]; rintro e wx ⟨rfl, nd, rfl⟩; clear L0) | (go_at_call 127; refine (now_any _ _ _ _ _ _ _ (H.out.drewN nd).step.rd L1.out).mono ?_; rw [HK.out]; rintro e wx ⟨rfl, nd2, rfl⟩) | (go_at_call 189; refine (rName_park T _ hTl (R := fun w' => RNAt w' b nb s.step.step vn vx (.slice va n vc) line K no d [] [] (-1) ∧ FrY b nb vx.ownBlock w w') ⟨(((H.out.drewN nd).step.drewN nd2).setK K).step, (((((FrY.refl _ _ _ _).drewN nd).setB 3 _).drewN nd2).setN 0 _).setB 3 _⟩).mono ?_; rw [HB.out]; rintro e w5 ⟨rfl, r5, f5⟩; have m0 := r5.n0; have m3 := r5.n3; have m4 := r5.n4; have mz := r5.nz; have d2 := r5.rd.c2; have d3 := r5.rd.c3; have R5 := hide r5; have F5 := hide f5; clear r5 f5) | (go_at_call 125; refine (wrong_any _ _ _ _ _ _ _ _ R5.out.rd).mono ?_; rintro e w1 ⟨rfl, r1, f1⟩; have q1 := R5.out.turn r1 f1; have c2e := q1.rd.c2; have c3e := q1.rd.c3; have Q1 := hide q1; have F1 := hide f1; clear r1 f1 q1))
    go_region
    go_wp2_with (go_at_call 125; refine (wrong_any _ _ _ _ _ _ _ _ Q1.out.drew.rd).mono ?_; rintro e w4 ⟨rfl, h4', f4⟩; have r4 := Q1.out.drew.turn h4' f4; have R4 := hide r4; have F4 := hide f4; clear h4' r4 f4)
    go_end0
    exact ⟨rfl, vx, R4.out, (F5.out.trans F1.out.weak.y (.inl rfl)).drew.trans F4.out.weak.y (.inl rfl), .inl rfl⟩
  · rw [if_neg hend]
    generalize s.toks.length = n at *
    go_enter Tryz.func129, Tryz.ntmps129
    go_wp2_with (first | (go_at_call 127; refine (now_any _ _ _ _ _ _ _ H.out.rd L0.out).mono ?_; rw [HT.out]; rintro e wx ⟨rfl, nd, rfl⟩; clear L0) | (go_at_call 127; refine (now_any _ _ _ _ _ _ _ (H.out.drewN nd).step.rd L1.out).mono ?_; rw [HK.out]; rintro e wx ⟨rfl, nd2, rfl⟩) | (go_at_call 189; refine (rName_park T _ hTl (R := fun w' => RNAt w' b nb s.step.step vn vx (.slice va n vc) line K no d [] [] (-1) ∧ FrY b nb vx.ownBlock w w') ⟨(((H.out.drewN nd).step.drewN nd2).setK K).step, (((((FrY.refl _ _ _ _).drewN nd).setB 3 _).drewN nd2).setN 0 _).setB 3 _⟩).mono ?_; rw [HB.out]; rintro e w5 ⟨rfl, r5, f5⟩; have m0 := r5.n0; have m3 := r5.n3; have m4 := r5.n4; have mz := r5.nz; have d2 := r5.rd.c2; have d3 := r5.rd.c3; have R5 := hide r5; have F5 := hide f5; clear r5 f5) | (go_at_call 125; refine (wrong_any _ _ _ _ _ _ _ _ R5.out.rd).mono ?_; rintro e w1 ⟨rfl, r1, f1⟩; have q1 := R5.out.turn r1 f1; have c2e := q1.rd.c2; have c3e := q1.rd.c3; have Q1 := hide q1; have F1 := hide f1; clear r1 f1 q1))
    go_region
    go_wp2_with fail
    go_end0
    exact ⟨rfl, vx, Q1.out.drew, (F5.out.trans F1.out.weak.y (.inl rfl)).drew, .inl rfl⟩

theorem rest_any (b nb : Nat) (s : XR) (vn vx vt : Value) (line no : Int) (d : Nat) (w : World) (h : RNAt w b nb s vn vx vt line s.now no d [] [] (-1)) (hl : Lim s 400) (hs0 : s.nest = 0) :
    Calls Tryz.prog 129 #[.pointer (some ⟨b, 0, none⟩), .pointer (some ⟨nb, 0, none⟩)] w fun e w' => e = .returned (.tuple #[]) ∧ RNPost b nb vn vt line no d w vx (rswitch s).1 (rend (rswitch s).2) w' := by
  by_cases hb : s.now ∈ bareW ++ askW ++ [wVar, wChan, wOn]
  · by_cases h1 : s.now ∈ bareW
    · have e : rswitch s = (⟨s.now, [], [], none⟩, s.step) := by unfold rswitch; dsimp only; rw [if_pos h1]
      rw [e]
      exact rest_bare b nb s vn vx vt line no d w h hl h1
    · by_cases h2 : s.now ∈ askW
      · have e : rswitch s = (⟨s.now, [], [], some (rexpr 4 s.step).1⟩, (rexpr 4 s.step).2) := by unfold rswitch; dsimp only; rw [if_neg h1, if_pos h2]
        rw [e]
        exact rest_ask b nb s vn vx vt line no d w h hl hs0 h2
      · by_cases h3 : s.now = wVar ∨ s.now = wChan
        · have e : rswitch s = (⟨s.now, s.step.name.1, [], none⟩, s.step.name.2) := by unfold rswitch; dsimp only; rw [if_neg h1, if_neg h2, if_pos h3]
          rw [e]
          exact rest_decl b nb s vn vx vt line no d w h hl hs0 (by simpa using h3)
        · have h4 : s.now = wOn := by
            simp only [List.mem_append, List.mem_cons, List.not_mem_nil, or_false] at hb
            rcases hb with (x | x) | x | x | x
            · exact absurd x h1
            · exact absurd x h2
            · exact absurd (.inl x) h3
            · exact absurd (.inr x) h3
            · exact x
          have e : rswitch s = rover s.step := by unfold rswitch; dsimp only; rw [if_neg h1, if_neg h2, if_neg h3, if_pos h4]
          rw [e]
          exact rest_on b nb s vn vx vt line no d w h hl hs0 (by simpa using h4)
  · rw [rswitch_def s hb]
    unfold rdef
    by_cases k1 : s.step.now = [58, 61]
    · have n2 : s.step.now ≠ [33] := by rw [k1]; decide
      have n3 : s.step.now ≠ [63] := by rw [k1]; decide
      cases hkn : rnameB s.now with
      | true => rw [if_pos ⟨k1, rfl⟩]; exact rest_set b nb s vn vx vt line no d w h hl hs0 hb k1 hkn
      | false =>
        rw [if_neg (by simp), if_neg (fun x => n2 x.1), if_neg (fun x => n3 x.1)]
        exact rest_bada b nb s vn vx vt line no d w h hl hs0 hb k1 hkn
    · rw [if_neg (fun x => k1 x.1)]
      by_cases k2 : s.step.now = [33]
      · have n3 : s.step.now ≠ [63] := by rw [k2]; decide
        cases hkn : rnameB s.now with
        | true => rw [if_pos ⟨k2, .inl rfl⟩]; exact rest_write b nb s vn vx vt line no d w h hl hs0 hb k2 hkn
        | false =>
          by_cases ho : s.now = wOut
          · rw [if_pos ⟨k2, .inr ho⟩]; exact rest_writeo b nb s vn vx vt line no d w h hl hs0 hb k2 hkn ho
          · rw [if_neg (by rintro ⟨_, x | x⟩; cases x; exact ho x), if_neg (fun x => n3 x.1)]
            exact rest_badb b nb s vn vx vt line no d w h hl hs0 hb k2 hkn ho
      · rw [if_neg (fun x => k2 x.1)]
        by_cases k3 : s.step.now = [63]
        · cases hkn : rnameB s.now with
          | true => rw [if_pos ⟨k3, .inl rfl⟩]; exact rest_read b nb s vn vx vt line no d w h hl hs0 hb k3 hkn
          | false =>
            by_cases ho : s.now = wIn
            · rw [if_pos ⟨k3, .inr ho⟩]; exact rest_readi b nb s vn vx vt line no d w h hl hs0 hb k3 hkn ho
            · rw [if_neg (by rintro ⟨_, x | x⟩; cases x; exact ho x)]
              exact rest_badc b nb s vn vx vt line no d w h hl hs0 hb k3 hkn ho
        · rw [if_neg (fun x => k3 x.1)]
          exact rest_badd b nb s vn vx vt line no d w h hl hs0 hb _ rfl k1 k2 k3
end Go.Proofs.YtnhidaamfnjdjaaGreatDoor
