import Derived.Test.YtnhidaamfnjdjaaGreatDoorRhL
namespace Go.Proofs.YtnhidaamfnjdjaaGreatDoor
open Go.RowKit Go.Maps

set_option maxRecDepth 20000 in
set_option maxHeartbeats 8000000 in
theorem line_a1 (w : World) (lo b : Nat) (ρ : Nat → Ro) (M : List (RNd × Value)) (S : RP) (s : XR) (vn vx vt pv : Value) (line : Int) (k : Nat) (h : LnAt w lo b ρ M S s vn vx vt pv line) (ok : SOk S k) (hk : k ≤ 800) (l : Bs) (hl : l.length ≤ 1000) (no : Int) (hd : spanN blankB l / 2 ≤ 10) (hb : spanN blankB l % 2 = 1) :
    Calls Tryz.prog 67 #[.pointer (some ⟨b, 0, none⟩), .string ⟨l.toArray⟩, .int .i64 no, pv] w fun e w' => LFail lo b no 2 w e w' := by
  have c6 := h.tx.rd.c6; have fz := h.tx.rd.fz
  have hsl := spanN_le blankB l
  have t0 : TxAt (w.setCell ⟨b, 6, none⟩ (.int .i64 no)) lo b ρ M s vn vx vt no := h.tx.turn ((FrX.refl _ _ _).set _ _) (at_setCell h.tx.rd.blk 6 _) rfl rfl
  have hpb : pv.ownBlock ≠ some b := by
    intro x
    have := (h.rp b x).2
    rw [h.tx.rb.2] at this
    cases this
  have C := hide (rclosed_both _ lo b ρ M s vn vx vt pv no S k t0 h.ns ok (by omega) (((FrX.refl b none w).set 6 (.int .i64 no)).own h.pile hpb (fun _ _ => by simp)) (spanN blankB l / 2) (by omega))
  have hcs := (closed_sub S (spanN blankB l / 2)).1
  have hcin := (closed_sub S (spanN blankB l / 2)).2
  have hxs := ok.xs; have hpl := ok.pile
  have hlim := start_lim (body := l.drop (spanN blankB l)) (xs := S.xs) (by rw [List.length_drop]; omega) (by omega)
  have L0 := hide (hlim.gr (k := 0) (Gr.refl _) (by omega)); have L4 := hide (hlim.gr (k := 400) (Gr.refl _) (by omega))
  have Bk := hide (fun w => rblanks_any ⟨l.toArray⟩ (by rw [rs_size l _ rfl]; omega) w)
  have hTk := hide (fun w => tokens_any (l.drop (spanN blankB l)) _ (cut_rest l (spanN blankB l)) (by rw [List.length_drop]; omega) w)
  have hsz : (⟨l.toArray⟩ : ByteArray).size = l.length := rs_size l _ rfl
  have E1 := hide (show spanN blankB (⟨l.toArray⟩ : ByteArray).data.toList = spanN blankB l by simp)
  have Hcin := hide hcin; have OK := hide ok
  have T0 := hide t0; have H := hide h
  have hml : M.length = S.nodes.length := by rw [← h.ns, List.length_map]
  have hmk := ok.nodes
  clear h t0 ok hlim hcin
  have HF0 : (startX (l.drop (spanN blankB l)) S.xs).now = (startX (l.drop (spanN blankB l)) S.xs).now := rfl
  generalize S.closed (spanN blankB l / 2) = cl at *
  obtain ⟨cp, cz⟩ := cl
  simp only at hcs
  generalize hF : (startX (l.drop (spanN blankB l)) S.xs).now = F at *
  have HF := hide hF
  clear hF HF0
  generalize hbb : spanN blankB l = bb at *
  clear hbb
  have ep : (((bb : Nat) : Int) % 2 == 1) = true := by rw [beq_iff_eq]; omega
  go_enter Tryz.func67, Tryz.ntmps67
  go_wp2_with (first | (go_at_call 66; refine (Bk.out _).mono ?_; rw [E1.out]; rintro e wx ⟨rfl, hw⟩; have hw := hw.symm; subst hw) | (go_at_call 68; refine C.out.mono ?_; rintro e w1 ⟨pv1, rfl, p1, o1, b1⟩; obtain ⟨pa1, pc1, rfl⟩ := ownsRow_len p1; have t1 := T0.out.below b1; have T1 := hide t1; have P1 := hide p1; have O1 := hide o1; have B1 := hide b1; clear t1 p1 o1 b1) | (go_at_call 126; refine (hTk.out _).mono ?_; rintro e w2 ⟨vt2, rfl, hw2⟩; obtain ⟨va2, vc2, rfl⟩ := ownsRow_len hw2.own; have t2 := T1.out.below hw2.bel; have c2 := t2.rd.c2; have c3 := t2.rd.c3; have c4 := t2.rd.c4; have fz2 := t2.rd.fz; have W2 := hide hw2; clear t2 hw2) | (go_at_call 127; refine (now_park b (startX (l.drop bb) S.xs) vn vx _ no _ (mid_rd H.out B1.out P1.out O1.out W2.out) L0.out (R := fun w' => Mid w w' lo b (fun g => if w1.heap.size ≤ g then .tks else ρ g) M S (l.drop bb) vn vx (.slice va2 (toksF (l.drop bb)).length vc2) (.slice pa1 cp.length pc1) no cp) (fun n => mid_of H.out B1.out P1.out O1.out W2.out n)).mono ?_; rw [HF.out]; rintro e w3 ⟨rfl, m3⟩; have c5 := m3.tx.rd.c5; have c0 := m3.tx.rd.c0; have M3 := hide m3; clear m3 c2 c3 c4 c6) | (go_at_call 125; refine (wrong_any _ _ _ _ _ _ _ _ M3.out.tx.rd).mono ?_; rintro e w4 ⟨rfl, r4, f4⟩; have d5 : w4.cell? ⟨b, 5, none⟩ = some (.int .i64 2) := r4.c5; have R4 := hide r4; have F4 := hide f4; clear r4 f4))
  go_ret
  exact M3.out.fail rfl R4.out F4.out

set_option maxRecDepth 20000 in
set_option maxHeartbeats 8000000 in
theorem line_a2 (w : World) (lo b : Nat) (ρ : Nat → Ro) (M : List (RNd × Value)) (S : RP) (s : XR) (vn vx vt pv : Value) (line : Int) (k : Nat) (h : LnAt w lo b ρ M S s vn vx vt pv line) (ok : SOk S k) (hk : k ≤ 800) (l : Bs) (hl : l.length ≤ 1000) (no : Int) (hd : spanN blankB l / 2 ≤ 10) (hb : spanN blankB l % 2 = 0) (hz : (S.closed (spanN blankB l / 2)).2 = false) :
    Calls Tryz.prog 67 #[.pointer (some ⟨b, 0, none⟩), .string ⟨l.toArray⟩, .int .i64 no, pv] w fun e w' => LFail lo b no 2 w e w' := by
  have c6 := h.tx.rd.c6; have fz := h.tx.rd.fz
  have hsl := spanN_le blankB l
  have t0 : TxAt (w.setCell ⟨b, 6, none⟩ (.int .i64 no)) lo b ρ M s vn vx vt no := h.tx.turn ((FrX.refl _ _ _).set _ _) (at_setCell h.tx.rd.blk 6 _) rfl rfl
  have hpb : pv.ownBlock ≠ some b := by
    intro x
    have := (h.rp b x).2
    rw [h.tx.rb.2] at this
    cases this
  have C := hide (rclosed_both _ lo b ρ M s vn vx vt pv no S k t0 h.ns ok (by omega) (((FrX.refl b none w).set 6 (.int .i64 no)).own h.pile hpb (fun _ _ => by simp)) (spanN blankB l / 2) (by omega))
  have hcs := (closed_sub S (spanN blankB l / 2)).1
  have hcin := (closed_sub S (spanN blankB l / 2)).2
  have hxs := ok.xs; have hpl := ok.pile
  have hlim := start_lim (body := l.drop (spanN blankB l)) (xs := S.xs) (by rw [List.length_drop]; omega) (by omega)
  have L0 := hide (hlim.gr (k := 0) (Gr.refl _) (by omega)); have L4 := hide (hlim.gr (k := 400) (Gr.refl _) (by omega))
  have Bk := hide (fun w => rblanks_any ⟨l.toArray⟩ (by rw [rs_size l _ rfl]; omega) w)
  have hTk := hide (fun w => tokens_any (l.drop (spanN blankB l)) _ (cut_rest l (spanN blankB l)) (by rw [List.length_drop]; omega) w)
  have hsz : (⟨l.toArray⟩ : ByteArray).size = l.length := rs_size l _ rfl
  have E1 := hide (show spanN blankB (⟨l.toArray⟩ : ByteArray).data.toList = spanN blankB l by simp)
  have Hcin := hide hcin; have OK := hide ok
  have T0 := hide t0; have H := hide h
  have hml : M.length = S.nodes.length := by rw [← h.ns, List.length_map]
  have hmk := ok.nodes
  clear h t0 ok hlim hcin
  have HF0 : (startX (l.drop (spanN blankB l)) S.xs).now = (startX (l.drop (spanN blankB l)) S.xs).now := rfl
  generalize S.closed (spanN blankB l / 2) = cl at *
  obtain ⟨cp, cz⟩ := cl
  simp only at hcs
  generalize hF : (startX (l.drop (spanN blankB l)) S.xs).now = F at *
  have HF := hide hF
  clear hF HF0
  generalize hbb : spanN blankB l = bb at *
  clear hbb
  have hz : cz = false := hz
  subst hz
  have ep : (((bb : Nat) : Int) % 2 == 1) = false := by rw [beq_eq_false_iff_ne]; omega
  go_enter Tryz.func67, Tryz.ntmps67
  go_wp2_with (first | (go_at_call 66; refine (Bk.out _).mono ?_; rw [E1.out]; rintro e wx ⟨rfl, hw⟩; have hw := hw.symm; subst hw) | (go_at_call 68; refine C.out.mono ?_; rintro e w1 ⟨pv1, rfl, p1, o1, b1⟩; obtain ⟨pa1, pc1, rfl⟩ := ownsRow_len p1; have t1 := T0.out.below b1; have T1 := hide t1; have P1 := hide p1; have O1 := hide o1; have B1 := hide b1; clear t1 p1 o1 b1) | (go_at_call 126; refine (hTk.out _).mono ?_; rintro e w2 ⟨vt2, rfl, hw2⟩; obtain ⟨va2, vc2, rfl⟩ := ownsRow_len hw2.own; have t2 := T1.out.below hw2.bel; have c2 := t2.rd.c2; have c3 := t2.rd.c3; have c4 := t2.rd.c4; have fz2 := t2.rd.fz; have W2 := hide hw2; clear t2 hw2) | (go_at_call 127; refine (now_park b (startX (l.drop bb) S.xs) vn vx _ no _ (mid_rd H.out B1.out P1.out O1.out W2.out) L0.out (R := fun w' => Mid w w' lo b (fun g => if w1.heap.size ≤ g then .tks else ρ g) M S (l.drop bb) vn vx (.slice va2 (toksF (l.drop bb)).length vc2) (.slice pa1 cp.length pc1) no cp) (fun n => mid_of H.out B1.out P1.out O1.out W2.out n)).mono ?_; rw [HF.out]; rintro e w3 ⟨rfl, m3⟩; have c5 := m3.tx.rd.c5; have c0 := m3.tx.rd.c0; have M3 := hide m3; clear m3 c2 c3 c4 c6) | (go_at_call 125; refine (wrong_any _ _ _ _ _ _ _ _ M3.out.tx.rd).mono ?_; rintro e w4 ⟨rfl, r4, f4⟩; have d5 : w4.cell? ⟨b, 5, none⟩ = some (.int .i64 2) := r4.c5; have R4 := hide r4; have F4 := hide f4; clear r4 f4))
  go_ret
  exact M3.out.fail rfl R4.out F4.out

set_option maxRecDepth 20000 in
set_option maxHeartbeats 8000000 in
theorem line_b1 (w : World) (lo b : Nat) (ρ : Nat → Ro) (M : List (RNd × Value)) (S : RP) (s : XR) (vn vx vt pv : Value) (line : Int) (k : Nat) (h : LnAt w lo b ρ M S s vn vx vt pv line) (ok : SOk S k) (hk : k ≤ 800) (l : Bs) (hl : l.length ≤ 1000) (no : Int) (hd : spanN blankB l / 2 ≤ 10) (hb : spanN blankB l % 2 = 0) (hz : (S.closed (spanN blankB l / 2)).2 = true) (he : (S.closed (spanN blankB l / 2)).1 = []) (h0 : 0 < spanN blankB l) :
    Calls Tryz.prog 67 #[.pointer (some ⟨b, 0, none⟩), .string ⟨l.toArray⟩, .int .i64 no, pv] w fun e w' => LFail lo b no 2 w e w' := by
  have c6 := h.tx.rd.c6; have fz := h.tx.rd.fz
  have hsl := spanN_le blankB l
  have t0 : TxAt (w.setCell ⟨b, 6, none⟩ (.int .i64 no)) lo b ρ M s vn vx vt no := h.tx.turn ((FrX.refl _ _ _).set _ _) (at_setCell h.tx.rd.blk 6 _) rfl rfl
  have hpb : pv.ownBlock ≠ some b := by
    intro x
    have := (h.rp b x).2
    rw [h.tx.rb.2] at this
    cases this
  have C := hide (rclosed_both _ lo b ρ M s vn vx vt pv no S k t0 h.ns ok (by omega) (((FrX.refl b none w).set 6 (.int .i64 no)).own h.pile hpb (fun _ _ => by simp)) (spanN blankB l / 2) (by omega))
  have hcs := (closed_sub S (spanN blankB l / 2)).1
  have hcin := (closed_sub S (spanN blankB l / 2)).2
  have hxs := ok.xs; have hpl := ok.pile
  have hlim := start_lim (body := l.drop (spanN blankB l)) (xs := S.xs) (by rw [List.length_drop]; omega) (by omega)
  have L0 := hide (hlim.gr (k := 0) (Gr.refl _) (by omega)); have L4 := hide (hlim.gr (k := 400) (Gr.refl _) (by omega))
  have Bk := hide (fun w => rblanks_any ⟨l.toArray⟩ (by rw [rs_size l _ rfl]; omega) w)
  have hTk := hide (fun w => tokens_any (l.drop (spanN blankB l)) _ (cut_rest l (spanN blankB l)) (by rw [List.length_drop]; omega) w)
  have hsz : (⟨l.toArray⟩ : ByteArray).size = l.length := rs_size l _ rfl
  have E1 := hide (show spanN blankB (⟨l.toArray⟩ : ByteArray).data.toList = spanN blankB l by simp)
  have Hcin := hide hcin; have OK := hide ok
  have T0 := hide t0; have H := hide h
  have hml : M.length = S.nodes.length := by rw [← h.ns, List.length_map]
  have hmk := ok.nodes
  clear h t0 ok hlim hcin
  have HF0 : (startX (l.drop (spanN blankB l)) S.xs).now = (startX (l.drop (spanN blankB l)) S.xs).now := rfl
  generalize S.closed (spanN blankB l / 2) = cl at *
  obtain ⟨cp, cz⟩ := cl
  simp only at hcs
  generalize hF : (startX (l.drop (spanN blankB l)) S.xs).now = F at *
  have HF := hide hF
  clear hF HF0
  generalize hbb : spanN blankB l = bb at *
  clear hbb
  have hz : cz = true := hz
  subst hz
  have ep : (((bb : Nat) : Int) % 2 == 1) = false := by rw [beq_eq_false_iff_ne]; omega
  have he : cp = [] := he
  subst he
  go_enter Tryz.func67, Tryz.ntmps67
  go_wp2_with (first | (go_at_call 66; refine (Bk.out _).mono ?_; rw [E1.out]; rintro e wx ⟨rfl, hw⟩; have hw := hw.symm; subst hw) | (go_at_call 68; refine C.out.mono ?_; rintro e w1 ⟨pv1, rfl, p1, o1, b1⟩; obtain ⟨pa1, pc1, rfl⟩ := ownsRow_len p1; have t1 := T0.out.below b1; have T1 := hide t1; have P1 := hide p1; have O1 := hide o1; have B1 := hide b1; clear t1 p1 o1 b1) | (go_at_call 126; refine (hTk.out _).mono ?_; rintro e w2 ⟨vt2, rfl, hw2⟩; obtain ⟨va2, vc2, rfl⟩ := ownsRow_len hw2.own; have t2 := T1.out.below hw2.bel; have c2 := t2.rd.c2; have c3 := t2.rd.c3; have c4 := t2.rd.c4; have fz2 := t2.rd.fz; have W2 := hide hw2; clear t2 hw2) | (go_at_call 127; refine (now_park b (startX (l.drop bb) S.xs) vn vx _ no _ (mid_rd H.out B1.out P1.out O1.out W2.out) L0.out (R := fun w' => Mid w w' lo b (fun g => if w1.heap.size ≤ g then .tks else ρ g) M S (l.drop bb) vn vx (.slice va2 (toksF (l.drop bb)).length vc2) (.slice pa1 ([] : List Nat).length pc1) no []) (fun n => mid_of H.out B1.out P1.out O1.out W2.out n)).mono ?_; rw [HF.out]; rintro e w3 ⟨rfl, m3⟩; have c5 := m3.tx.rd.c5; have c0 := m3.tx.rd.c0; obtain ⟨na, nc, hvn⟩ := ownsRow_len m3.tx.nodes; rw [hvn] at c0; have M3 := hide m3; clear m3 c2 c3 c4 c6) | (go_at_call 125; refine (wrong_any _ _ _ _ _ _ _ _ M3.out.tx.rd).mono ?_; rintro e w4 ⟨rfl, r4, f4⟩; have d5 : w4.cell? ⟨b, 5, none⟩ = some (.int .i64 2) := r4.c5; have R4 := hide r4; have F4 := hide f4; clear r4 f4))
  go_ret
  exact M3.out.fail rfl R4.out F4.out

set_option maxRecDepth 20000 in
set_option maxHeartbeats 8000000 in
theorem line_b2 (w : World) (lo b : Nat) (ρ : Nat → Ro) (M : List (RNd × Value)) (S : RP) (s : XR) (vn vx vt pv : Value) (line : Int) (k : Nat) (h : LnAt w lo b ρ M S s vn vx vt pv line) (ok : SOk S k) (hk : k ≤ 800) (l : Bs) (hl : l.length ≤ 1000) (no : Int) (_hd : spanN blankB l / 2 ≤ 10) (hb : spanN blankB l % 2 = 0) (hz : (S.closed (spanN blankB l / 2)).2 = true) (he : (S.closed (spanN blankB l / 2)).1 = []) (h0 : spanN blankB l ≤ 0) (h1 : 0 < M.length) :
    Calls Tryz.prog 67 #[.pointer (some ⟨b, 0, none⟩), .string ⟨l.toArray⟩, .int .i64 no, pv] w fun e w' => LFail lo b no 2 w e w' := by
  have c6 := h.tx.rd.c6; have fz := h.tx.rd.fz
  have hsl := spanN_le blankB l
  have t0 : TxAt (w.setCell ⟨b, 6, none⟩ (.int .i64 no)) lo b ρ M s vn vx vt no := h.tx.turn ((FrX.refl _ _ _).set _ _) (at_setCell h.tx.rd.blk 6 _) rfl rfl
  have hpb : pv.ownBlock ≠ some b := by
    intro x
    have := (h.rp b x).2
    rw [h.tx.rb.2] at this
    cases this
  have C := hide (rclosed_both _ lo b ρ M s vn vx vt pv no S k t0 h.ns ok (by omega) (((FrX.refl b none w).set 6 (.int .i64 no)).own h.pile hpb (fun _ _ => by simp)) (spanN blankB l / 2) (by omega))
  have hcs := (closed_sub S (spanN blankB l / 2)).1
  have hcin := (closed_sub S (spanN blankB l / 2)).2
  have hxs := ok.xs; have hpl := ok.pile
  have hlim := start_lim (body := l.drop (spanN blankB l)) (xs := S.xs) (by rw [List.length_drop]; omega) (by omega)
  have L0 := hide (hlim.gr (k := 0) (Gr.refl _) (by omega)); have L4 := hide (hlim.gr (k := 400) (Gr.refl _) (by omega))
  have Bk := hide (fun w => rblanks_any ⟨l.toArray⟩ (by rw [rs_size l _ rfl]; omega) w)
  have hTk := hide (fun w => tokens_any (l.drop (spanN blankB l)) _ (cut_rest l (spanN blankB l)) (by rw [List.length_drop]; omega) w)
  have hsz : (⟨l.toArray⟩ : ByteArray).size = l.length := rs_size l _ rfl
  have E1 := hide (show spanN blankB (⟨l.toArray⟩ : ByteArray).data.toList = spanN blankB l by simp)
  have Hcin := hide hcin; have OK := hide ok
  have T0 := hide t0; have H := hide h
  have hml : M.length = S.nodes.length := by rw [← h.ns, List.length_map]
  have hmk := ok.nodes
  clear h t0 ok hlim hcin
  have HF0 : (startX (l.drop (spanN blankB l)) S.xs).now = (startX (l.drop (spanN blankB l)) S.xs).now := rfl
  generalize S.closed (spanN blankB l / 2) = cl at *
  obtain ⟨cp, cz⟩ := cl
  simp only at hcs
  generalize hF : (startX (l.drop (spanN blankB l)) S.xs).now = F at *
  have HF := hide hF
  clear hF HF0
  generalize hbb : spanN blankB l = bb at *
  clear hbb
  have hz : cz = true := hz
  subst hz
  have ep : (((bb : Nat) : Int) % 2 == 1) = false := by rw [beq_eq_false_iff_ne]; omega
  have he : cp = [] := he
  subst he
  clear hml hmk
  go_enter Tryz.func67, Tryz.ntmps67
  go_wp2_with (first | (go_at_call 66; refine (Bk.out _).mono ?_; rw [E1.out]; rintro e wx ⟨rfl, hw⟩; have hw := hw.symm; subst hw) | (go_at_call 68; refine C.out.mono ?_; rintro e w1 ⟨pv1, rfl, p1, o1, b1⟩; obtain ⟨pa1, pc1, rfl⟩ := ownsRow_len p1; have t1 := T0.out.below b1; have T1 := hide t1; have P1 := hide p1; have O1 := hide o1; have B1 := hide b1; clear t1 p1 o1 b1) | (go_at_call 126; refine (hTk.out _).mono ?_; rintro e w2 ⟨vt2, rfl, hw2⟩; obtain ⟨va2, vc2, rfl⟩ := ownsRow_len hw2.own; have t2 := T1.out.below hw2.bel; have c2 := t2.rd.c2; have c3 := t2.rd.c3; have c4 := t2.rd.c4; have fz2 := t2.rd.fz; have W2 := hide hw2; clear t2 hw2) | (go_at_call 127; refine (now_park b (startX (l.drop bb) S.xs) vn vx _ no _ (mid_rd H.out B1.out P1.out O1.out W2.out) L0.out (R := fun w' => Mid w w' lo b (fun g => if w1.heap.size ≤ g then .tks else ρ g) M S (l.drop bb) vn vx (.slice va2 (toksF (l.drop bb)).length vc2) (.slice pa1 ([] : List Nat).length pc1) no []) (fun n => mid_of H.out B1.out P1.out O1.out W2.out n)).mono ?_; rw [HF.out]; rintro e w3 ⟨rfl, m3⟩; have c5 := m3.tx.rd.c5; have c0 := m3.tx.rd.c0; obtain ⟨na, nc, hvn⟩ := ownsRow_len m3.tx.nodes; rw [hvn] at c0; have M3 := hide m3; clear m3 c2 c3 c4 c6) | (go_at_call 125; refine (wrong_any _ _ _ _ _ _ _ _ M3.out.tx.rd).mono ?_; rintro e w4 ⟨rfl, r4, f4⟩; have d5 : w4.cell? ⟨b, 5, none⟩ = some (.int .i64 2) := r4.c5; have R4 := hide r4; have F4 := hide f4; clear r4 f4))
  go_ret
  exact M3.out.fail rfl R4.out F4.out

set_option maxRecDepth 20000 in
set_option maxHeartbeats 8000000 in
theorem line_b3 (w : World) (lo b : Nat) (ρ : Nat → Ro) (M : List (RNd × Value)) (S : RP) (s : XR) (vn vx vt pv : Value) (line : Int) (k : Nat) (h : LnAt w lo b ρ M S s vn vx vt pv line) (ok : SOk S k) (hk : k ≤ 800) (l : Bs) (hl : l.length ≤ 1000) (no : Int) (_hd : spanN blankB l / 2 ≤ 10) (hb : spanN blankB l % 2 = 0) (hz : (S.closed (spanN blankB l / 2)).2 = true) (he : (S.closed (spanN blankB l / 2)).1 = []) (h0 : spanN blankB l ≤ 0) (h1 : M.length ≤ 0) (h2 : (startX (l.drop (spanN blankB l)) S.xs).now = wWhen ∨ (startX (l.drop (spanN blankB l)) S.xs).now = wOn) :
    Calls Tryz.prog 67 #[.pointer (some ⟨b, 0, none⟩), .string ⟨l.toArray⟩, .int .i64 no, pv] w fun e w' => LFail lo b no 2 w e w' := by
  have c6 := h.tx.rd.c6; have fz := h.tx.rd.fz
  have hsl := spanN_le blankB l
  have t0 : TxAt (w.setCell ⟨b, 6, none⟩ (.int .i64 no)) lo b ρ M s vn vx vt no := h.tx.turn ((FrX.refl _ _ _).set _ _) (at_setCell h.tx.rd.blk 6 _) rfl rfl
  have hpb : pv.ownBlock ≠ some b := by
    intro x
    have := (h.rp b x).2
    rw [h.tx.rb.2] at this
    cases this
  have C := hide (rclosed_both _ lo b ρ M s vn vx vt pv no S k t0 h.ns ok (by omega) (((FrX.refl b none w).set 6 (.int .i64 no)).own h.pile hpb (fun _ _ => by simp)) (spanN blankB l / 2) (by omega))
  have hcs := (closed_sub S (spanN blankB l / 2)).1
  have hcin := (closed_sub S (spanN blankB l / 2)).2
  have hxs := ok.xs; have hpl := ok.pile
  have hlim := start_lim (body := l.drop (spanN blankB l)) (xs := S.xs) (by rw [List.length_drop]; omega) (by omega)
  have L0 := hide (hlim.gr (k := 0) (Gr.refl _) (by omega)); have L4 := hide (hlim.gr (k := 400) (Gr.refl _) (by omega))
  have Bk := hide (fun w => rblanks_any ⟨l.toArray⟩ (by rw [rs_size l _ rfl]; omega) w)
  have hTk := hide (fun w => tokens_any (l.drop (spanN blankB l)) _ (cut_rest l (spanN blankB l)) (by rw [List.length_drop]; omega) w)
  have hsz : (⟨l.toArray⟩ : ByteArray).size = l.length := rs_size l _ rfl
  have E1 := hide (show spanN blankB (⟨l.toArray⟩ : ByteArray).data.toList = spanN blankB l by simp)
  have Hcin := hide hcin; have OK := hide ok
  have T0 := hide t0; have H := hide h
  have hml : M.length = S.nodes.length := by rw [← h.ns, List.length_map]
  have hmk := ok.nodes
  clear h t0 ok hlim hcin
  have HF0 : (startX (l.drop (spanN blankB l)) S.xs).now = (startX (l.drop (spanN blankB l)) S.xs).now := rfl
  generalize S.closed (spanN blankB l / 2) = cl at *
  obtain ⟨cp, cz⟩ := cl
  simp only at hcs
  generalize hF : (startX (l.drop (spanN blankB l)) S.xs).now = F at *
  have HF := hide hF
  clear hF HF0
  generalize hbb : spanN blankB l = bb at *
  clear hbb
  have hz : cz = true := hz
  subst hz
  have ep : (((bb : Nat) : Int) % 2 == 1) = false := by rw [beq_eq_false_iff_ne]; omega
  have he : cp = [] := he
  subst he
  clear hml hmk
  have e2 : (F == [119, 104, 101, 110]) = true ∨ (F == [119, 104, 101, 110]) = false ∧ (F == [111, 110]) = true := by
    rcases h2 with x | x
    · exact .inl (by rw [beq_iff_eq]; exact x)
    · exact .inr ⟨by rw [x]; decide, by rw [beq_iff_eq]; exact x⟩
  clear h2
  rcases e2 with e2 | ⟨e2, e3⟩
  all_goals
    go_enter Tryz.func67, Tryz.ntmps67
    go_wp2_with (first | (go_at_call 66; refine (Bk.out _).mono ?_; rw [E1.out]; rintro e wx ⟨rfl, hw⟩; have hw := hw.symm; subst hw) | (go_at_call 68; refine C.out.mono ?_; rintro e w1 ⟨pv1, rfl, p1, o1, b1⟩; obtain ⟨pa1, pc1, rfl⟩ := ownsRow_len p1; have t1 := T0.out.below b1; have T1 := hide t1; have P1 := hide p1; have O1 := hide o1; have B1 := hide b1; clear t1 p1 o1 b1) | (go_at_call 126; refine (hTk.out _).mono ?_; rintro e w2 ⟨vt2, rfl, hw2⟩; obtain ⟨va2, vc2, rfl⟩ := ownsRow_len hw2.own; have t2 := T1.out.below hw2.bel; have c2 := t2.rd.c2; have c3 := t2.rd.c3; have c4 := t2.rd.c4; have fz2 := t2.rd.fz; have W2 := hide hw2; clear t2 hw2) | (go_at_call 127; refine (now_park b (startX (l.drop bb) S.xs) vn vx _ no _ (mid_rd H.out B1.out P1.out O1.out W2.out) L0.out (R := fun w' => Mid w w' lo b (fun g => if w1.heap.size ≤ g then .tks else ρ g) M S (l.drop bb) vn vx (.slice va2 (toksF (l.drop bb)).length vc2) (.slice pa1 ([] : List Nat).length pc1) no []) (fun n => mid_of H.out B1.out P1.out O1.out W2.out n)).mono ?_; rw [HF.out]; rintro e w3 ⟨rfl, m3⟩; have c5 := m3.tx.rd.c5; have c0 := m3.tx.rd.c0; obtain ⟨na, nc, hvn⟩ := ownsRow_len m3.tx.nodes; rw [hvn] at c0; have M3 := hide m3; clear m3 c2 c3 c4 c6) | (go_at_call 125; refine (wrong_any _ _ _ _ _ _ _ _ M3.out.tx.rd).mono ?_; rintro e w4 ⟨rfl, r4, f4⟩; have d5 : w4.cell? ⟨b, 5, none⟩ = some (.int .i64 2) := r4.c5; have R4 := hide r4; have F4 := hide f4; clear r4 f4))
    go_ret
    exact M3.out.fail rfl R4.out F4.out
end Go.Proofs.YtnhidaamfnjdjaaGreatDoor
namespace Go.Proofs.YtnhidaamfnjdjaaGreatDoor
open Go.RowKit Go.Maps

set_option maxRecDepth 20000 in
set_option maxHeartbeats 8000000 in
theorem line_deep (w : World) (lo b : Nat) (ρ : Nat → Ro) (M : List (RNd × Value)) (S : RP) (s : XR) (vn vx vt pv : Value) (line : Int) (k : Nat) (h : LnAt w lo b ρ M S s vn vx vt pv line) (_ok : SOk S k) (_hk : k ≤ 800) (l : Bs) (hl : l.length ≤ 1000) (no : Int) (hd : 10 < spanN blankB l / 2) :
    Calls Tryz.prog 67 #[.pointer (some ⟨b, 0, none⟩), .string ⟨l.toArray⟩, .int .i64 no, pv] w fun e w' => LFail lo b no 3 w e w' := by
  have c6 := h.tx.rd.c6; have fz := h.tx.rd.fz
  have hsl := spanN_le blankB l
  have f0 : FrX b none w (w.setCell ⟨b, 6, none⟩ (.int .i64 no)) := (FrX.refl _ _ _).set _ _
  have t0 : TxAt (w.setCell ⟨b, 6, none⟩ (.int .i64 no)) lo b ρ M s vn vx vt no := h.tx.turn f0 (at_setCell h.tx.rd.blk 6 _) rfl rfl
  have Bk := hide (fun w => rblanks_any ⟨l.toArray⟩ (by rw [rs_size l _ rfl]; omega) w)
  have E1 := hide (show spanN blankB (⟨l.toArray⟩ : ByteArray).data.toList = spanN blankB l by simp)
  have T0 := hide t0; have H := hide h; have F0 := hide f0
  clear h t0 f0
  generalize hbb : spanN blankB l = bb at *
  clear hbb
  go_enter Tryz.func67, Tryz.ntmps67
  go_wp2_with (first | (go_at_call 66; refine (Bk.out _).mono ?_; rw [E1.out]; rintro e wx ⟨rfl, hw⟩; have hw := hw.symm; subst hw) | (go_at_call 125; refine (wrong_any _ _ _ _ _ _ _ _ T0.out.rd).mono ?_; rintro e w4 ⟨rfl, r4, f4⟩; have R4 := hide r4; have F4 := hide f4; clear r4 f4))
  go_ret
  have e3 : (s.wrong 3).e = 3 := by unfold XR.wrong; rw [if_pos H.out.e0]
  refine ⟨⟨_, rfl⟩, (F0.out.trans F4.out (.inl rfl)).bel H.out.lo', ?_, R4.out.c6⟩
  rw [R4.out.c5, e3]

set_option maxRecDepth 20000 in
set_option maxHeartbeats 8000000 in
theorem line_c1 (w : World) (lo b : Nat) (ρ : Nat → Ro) (M : List (RNd × Value)) (S : RP) (s : XR) (vn vx vt pv : Value) (line : Int) (k : Nat) (h : LnAt w lo b ρ M S s vn vx vt pv line) (ok : SOk S k) (hk : k ≤ 800) (l : Bs) (hl : l.length ≤ 1000) (no : Int) (hd : spanN blankB l / 2 ≤ 10) (hb : spanN blankB l % 2 = 0) (hz : (S.closed (spanN blankB l / 2)).2 = true) (t : Nat) (ht : (S.closed (spanN blankB l / 2)).1.getLast? = some t) (hf : fitsB (S.at t) (startX (l.drop (spanN blankB l)) S.xs).now = false) :
    Calls Tryz.prog 67 #[.pointer (some ⟨b, 0, none⟩), .string ⟨l.toArray⟩, .int .i64 no, pv] w fun e w' => LFail lo b no 2 w e w' := by
  have c6 := h.tx.rd.c6; have fz := h.tx.rd.fz
  have hsl := spanN_le blankB l
  have t0 : TxAt (w.setCell ⟨b, 6, none⟩ (.int .i64 no)) lo b ρ M s vn vx vt no := h.tx.turn ((FrX.refl _ _ _).set _ _) (at_setCell h.tx.rd.blk 6 _) rfl rfl
  have hpb : pv.ownBlock ≠ some b := by
    intro x
    have := (h.rp b x).2
    rw [h.tx.rb.2] at this
    cases this
  have C := hide (rclosed_both _ lo b ρ M s vn vx vt pv no S k t0 h.ns ok (by omega) (((FrX.refl b none w).set 6 (.int .i64 no)).own h.pile hpb (fun _ _ => by simp)) (spanN blankB l / 2) (by omega))
  have hcs := (closed_sub S (spanN blankB l / 2)).1
  have hcin := (closed_sub S (spanN blankB l / 2)).2
  have hxs := ok.xs; have hpl := ok.pile
  have hlim := start_lim (body := l.drop (spanN blankB l)) (xs := S.xs) (by rw [List.length_drop]; omega) (by omega)
  have L0 := hide (hlim.gr (k := 0) (Gr.refl _) (by omega)); have L4 := hide (hlim.gr (k := 400) (Gr.refl _) (by omega))
  have Bk := hide (fun w => rblanks_any ⟨l.toArray⟩ (by rw [rs_size l _ rfl]; omega) w)
  have hTk := hide (fun w => tokens_any (l.drop (spanN blankB l)) _ (cut_rest l (spanN blankB l)) (by rw [List.length_drop]; omega) w)
  have hsz : (⟨l.toArray⟩ : ByteArray).size = l.length := rs_size l _ rfl
  have E1 := hide (show spanN blankB (⟨l.toArray⟩ : ByteArray).data.toList = spanN blankB l by simp)
  have Hcin := hide hcin; have OK := hide ok
  have T0 := hide t0; have H := hide h
  have hml : M.length = S.nodes.length := by rw [← h.ns, List.length_map]
  have hmk := ok.nodes
  clear h t0 ok hlim hcin
  have HF0 : (startX (l.drop (spanN blankB l)) S.xs).now = (startX (l.drop (spanN blankB l)) S.xs).now := rfl
  generalize S.closed (spanN blankB l / 2) = cl at *
  obtain ⟨cp, cz⟩ := cl
  simp only at hcs
  generalize hF : (startX (l.drop (spanN blankB l)) S.xs).now = F at *
  have HF := hide hF
  clear hF HF0
  generalize hbb : spanN blankB l = bb at *
  clear hbb
  have hz : cz = true := hz
  subst hz
  have ep : (((bb : Nat) : Int) % 2 == 1) = false := by rw [beq_eq_false_iff_ne]; omega
  have ht : cp.getLast? = some t := ht
  have hpos : 0 < cp.length := by
    cases cp with
    | nil => cases ht
    | cons a r => simp
  obtain ⟨n1, hn1⟩ : ∃ n1, cp.length = n1 + 1 := ⟨cp.length - 1, by omega⟩
  have htop : cp[n1]? = some t := by
    rw [List.getLast?_eq_getElem?, hn1] at ht
    simpa using ht
  have htm : t < M.length := by
    rw [hml]
    exact OK.out.pin t (Hcin.out t (List.mem_of_getElem? htop))
  obtain ⟨kv, hkv⟩ := getM H.out.ns htm
  have hkk := OK.out.kids t; have hki := OK.out.inn t
  have Hkv := hide hkv; have Htop := hide htop
  have hn1b : n1 + 1 ≤ 900 := by omega
  have hmb : M.length ≤ 900 := by omega
  clear ht hkv htop hml hmk hcs hpl
  have Hfit := hide hf
  clear hf
  go_enter Tryz.func67, Tryz.ntmps67
  go_wp2_with (first | (go_at_call 66; refine (Bk.out _).mono ?_; rw [E1.out]; rintro e wx ⟨rfl, hw⟩; have hw := hw.symm; subst hw) | (go_at_call 68; refine C.out.mono ?_; rintro e w1 ⟨pv1, rfl, p1, o1, b1⟩; obtain ⟨pg, pc1, pcur, hpv, _, hpc1, hpc2, _, _⟩ := ownsRow_shape p1 hpos; rw [hn1] at hpv hpc1; subst hpv; have t1 := T0.out.below b1; have T1 := hide t1; have P1 := hide p1; have O1 := hide o1; have B1 := hide b1; clear t1 p1 o1 b1) | (go_at_call 126; refine (hTk.out _).mono ?_; rintro e w2 ⟨vt2, rfl, hw2⟩; obtain ⟨va2, vc2, rfl⟩ := ownsRow_len hw2.own; have t2 := T1.out.below hw2.bel; have c2 := t2.rd.c2; have c3 := t2.rd.c3; have c4 := t2.rd.c4; have fz2 := t2.rd.fz; have W2 := hide hw2; clear t2 hw2) | (go_at_call 127; refine (now_park b (startX (l.drop bb) S.xs) vn vx _ no _ (mid_rd H.out B1.out P1.out O1.out W2.out) L0.out (R := fun w' => Mid w w' lo b (fun g => if w1.heap.size ≤ g then .tks else ρ g) M S (l.drop bb) vn vx (.slice va2 (toksF (l.drop bb)).length vc2) (.slice (some ⟨pg, 0, none⟩) (n1 + 1) pc1) no cp) (fun n => mid_of H.out B1.out P1.out O1.out W2.out n)).mono ?_; rw [HF.out]; rintro e w3 ⟨rfl, m3⟩; have c5 := m3.tx.rd.c5; have c0 := m3.tx.rd.c0; have tc := pile_top m3.pile Htop.out; have M3 := hide m3; clear m3 c2 c3 c4 c6) | (go_at_call 128; refine (rfits_any w3 lo b _ M _ vn vx _ no M3.out.tx t (S.at t) kv Hkv.out (by omega) (by omega) F).mono ?_; rw [Hfit.out]; rintro e w4 ⟨rfl, b4⟩; have m4 := M3.out.below b4; have c54 := m4.tx.rd.c5; have c04 := m4.tx.rd.c0; have tc4 := pile_top m4.pile Htop.out; obtain ⟨gn, capn, hvn, hn4, hn5, hnc⟩ := node_at m4.tx.nodes Hkv.out; have d2 := hnc 2 _ rfl; rw [hvn] at c04; have M4 := hide m4; clear m4 b4 hnc c0 c5))
  go_region
  have M5 := hide (M4.out.below (Below.refl _ _).drew)
  go_wp2_with (go_at_call 125; refine (wrong_any _ _ _ _ _ _ _ _ M5.out.tx.rd).mono ?_; rintro e w5 ⟨rfl, r4, f4⟩; have d5 : w5.cell? ⟨b, 5, none⟩ = some (.int .i64 2) := r4.c5; have R4 := hide r4; have F4 := hide f4; clear r4 f4)
  go_ret
  exact M5.out.fail rfl R4.out F4.out

set_option maxRecDepth 20000 in
set_option maxHeartbeats 8000000 in
theorem line_c2 (w : World) (lo b : Nat) (ρ : Nat → Ro) (M : List (RNd × Value)) (S : RP) (s : XR) (vn vx vt pv : Value) (line : Int) (k : Nat) (h : LnAt w lo b ρ M S s vn vx vt pv line) (ok : SOk S k) (hk : k ≤ 800) (l : Bs) (hl : l.length ≤ 1000) (no : Int) (hd : spanN blankB l / 2 ≤ 10) (hb : spanN blankB l % 2 = 0) (hz : (S.closed (spanN blankB l / 2)).2 = true) (t : Nat) (ht : (S.closed (spanN blankB l / 2)).1.getLast? = some t) (hf : fitsB (S.at t) (startX (l.drop (spanN blankB l)) S.xs).now = true) (hi : (S.at t).inn + 1 ≠ spanN blankB l / 2) :
    Calls Tryz.prog 67 #[.pointer (some ⟨b, 0, none⟩), .string ⟨l.toArray⟩, .int .i64 no, pv] w fun e w' => LFail lo b no 2 w e w' := by
  have c6 := h.tx.rd.c6; have fz := h.tx.rd.fz
  have hsl := spanN_le blankB l
  have t0 : TxAt (w.setCell ⟨b, 6, none⟩ (.int .i64 no)) lo b ρ M s vn vx vt no := h.tx.turn ((FrX.refl _ _ _).set _ _) (at_setCell h.tx.rd.blk 6 _) rfl rfl
  have hpb : pv.ownBlock ≠ some b := by
    intro x
    have := (h.rp b x).2
    rw [h.tx.rb.2] at this
    cases this
  have C := hide (rclosed_both _ lo b ρ M s vn vx vt pv no S k t0 h.ns ok (by omega) (((FrX.refl b none w).set 6 (.int .i64 no)).own h.pile hpb (fun _ _ => by simp)) (spanN blankB l / 2) (by omega))
  have hcs := (closed_sub S (spanN blankB l / 2)).1
  have hcin := (closed_sub S (spanN blankB l / 2)).2
  have hxs := ok.xs; have hpl := ok.pile
  have hlim := start_lim (body := l.drop (spanN blankB l)) (xs := S.xs) (by rw [List.length_drop]; omega) (by omega)
  have L0 := hide (hlim.gr (k := 0) (Gr.refl _) (by omega)); have L4 := hide (hlim.gr (k := 400) (Gr.refl _) (by omega))
  have Bk := hide (fun w => rblanks_any ⟨l.toArray⟩ (by rw [rs_size l _ rfl]; omega) w)
  have hTk := hide (fun w => tokens_any (l.drop (spanN blankB l)) _ (cut_rest l (spanN blankB l)) (by rw [List.length_drop]; omega) w)
  have hsz : (⟨l.toArray⟩ : ByteArray).size = l.length := rs_size l _ rfl
  have E1 := hide (show spanN blankB (⟨l.toArray⟩ : ByteArray).data.toList = spanN blankB l by simp)
  have Hcin := hide hcin; have OK := hide ok
  have T0 := hide t0; have H := hide h
  have hml : M.length = S.nodes.length := by rw [← h.ns, List.length_map]
  have hmk := ok.nodes
  clear h t0 ok hlim hcin
  have HF0 : (startX (l.drop (spanN blankB l)) S.xs).now = (startX (l.drop (spanN blankB l)) S.xs).now := rfl
  generalize S.closed (spanN blankB l / 2) = cl at *
  obtain ⟨cp, cz⟩ := cl
  simp only at hcs
  generalize hF : (startX (l.drop (spanN blankB l)) S.xs).now = F at *
  have HF := hide hF
  clear hF HF0
  generalize hbb : spanN blankB l = bb at *
  clear hbb
  have hz : cz = true := hz
  subst hz
  have ep : (((bb : Nat) : Int) % 2 == 1) = false := by rw [beq_eq_false_iff_ne]; omega
  have ht : cp.getLast? = some t := ht
  have hpos : 0 < cp.length := by
    cases cp with
    | nil => cases ht
    | cons a r => simp
  obtain ⟨n1, hn1⟩ : ∃ n1, cp.length = n1 + 1 := ⟨cp.length - 1, by omega⟩
  have htop : cp[n1]? = some t := by
    rw [List.getLast?_eq_getElem?, hn1] at ht
    simpa using ht
  have htm : t < M.length := by
    rw [hml]
    exact OK.out.pin t (Hcin.out t (List.mem_of_getElem? htop))
  obtain ⟨kv, hkv⟩ := getM H.out.ns htm
  have hkk := OK.out.kids t; have hki := OK.out.inn t
  have Hkv := hide hkv; have Htop := hide htop
  have hn1b : n1 + 1 ≤ 900 := by omega
  have hmb : M.length ≤ 900 := by omega
  clear ht hkv htop hml hmk hcs hpl
  have Hfit := hide hf
  clear hf
  have ei : (((S.at t).inn : Int) + 1 != ((bb : Nat) : Int) / 2) = true := by rw [bne_iff_ne]; omega
  go_enter Tryz.func67, Tryz.ntmps67
  go_wp2_with (first | (go_at_call 66; refine (Bk.out _).mono ?_; rw [E1.out]; rintro e wx ⟨rfl, hw⟩; have hw := hw.symm; subst hw) | (go_at_call 68; refine C.out.mono ?_; rintro e w1 ⟨pv1, rfl, p1, o1, b1⟩; obtain ⟨pg, pc1, pcur, hpv, _, hpc1, hpc2, _, _⟩ := ownsRow_shape p1 hpos; rw [hn1] at hpv hpc1; subst hpv; have t1 := T0.out.below b1; have T1 := hide t1; have P1 := hide p1; have O1 := hide o1; have B1 := hide b1; clear t1 p1 o1 b1) | (go_at_call 126; refine (hTk.out _).mono ?_; rintro e w2 ⟨vt2, rfl, hw2⟩; obtain ⟨va2, vc2, rfl⟩ := ownsRow_len hw2.own; have t2 := T1.out.below hw2.bel; have c2 := t2.rd.c2; have c3 := t2.rd.c3; have c4 := t2.rd.c4; have fz2 := t2.rd.fz; have W2 := hide hw2; clear t2 hw2) | (go_at_call 127; refine (now_park b (startX (l.drop bb) S.xs) vn vx _ no _ (mid_rd H.out B1.out P1.out O1.out W2.out) L0.out (R := fun w' => Mid w w' lo b (fun g => if w1.heap.size ≤ g then .tks else ρ g) M S (l.drop bb) vn vx (.slice va2 (toksF (l.drop bb)).length vc2) (.slice (some ⟨pg, 0, none⟩) (n1 + 1) pc1) no cp) (fun n => mid_of H.out B1.out P1.out O1.out W2.out n)).mono ?_; rw [HF.out]; rintro e w3 ⟨rfl, m3⟩; have c5 := m3.tx.rd.c5; have c0 := m3.tx.rd.c0; have tc := pile_top m3.pile Htop.out; have M3 := hide m3; clear m3 c2 c3 c4 c6) | (go_at_call 128; refine (rfits_any w3 lo b _ M _ vn vx _ no M3.out.tx t (S.at t) kv Hkv.out (by omega) (by omega) F).mono ?_; rw [Hfit.out]; rintro e w4 ⟨rfl, b4⟩; have m4 := M3.out.below b4; have c54 := m4.tx.rd.c5; have c04 := m4.tx.rd.c0; have tc4 := pile_top m4.pile Htop.out; obtain ⟨gn, capn, hvn, hn4, hn5, hnc⟩ := node_at m4.tx.nodes Hkv.out; have d2 := hnc 2 _ rfl; rw [hvn] at c04; have M4 := hide m4; clear m4 b4 hnc c0 c5))
  go_region
  have M5 := hide (M4.out.below (Below.refl _ _).drew)
  go_wp2_with (go_at_call 125; refine (wrong_any _ _ _ _ _ _ _ _ M5.out.tx.rd).mono ?_; rintro e w5 ⟨rfl, r4, f4⟩; have d5 : w5.cell? ⟨b, 5, none⟩ = some (.int .i64 2) := r4.c5; have R4 := hide r4; have F4 := hide f4; clear r4 f4)
  go_ret
  exact M5.out.fail rfl R4.out F4.out
end Go.Proofs.YtnhidaamfnjdjaaGreatDoor
