import Derived.Test.YtnhidaamfnjdjaaGreatDoorRhP
import Derived.Test.YtnhidaamfnjdjaaGreatDoorRhH
namespace Go.Proofs.YtnhidaamfnjdjaaGreatDoor
open Go.RowKit Go.Maps

set_option maxRecDepth 20000 in
set_option maxHeartbeats 8000000 in
theorem line_s0 (w : World) (lo b : Nat) (ρ : Nat → Ro) (M : List (RNd × Value)) (S : RP) (s : XR) (vn vx vt pv : Value) (line : Int) (k : Nat) (h : LnAt w lo b ρ M S s vn vx vt pv line) (ok : SOk S k) (hk : k ≤ 800) (l : Bs) (hl : l.length ≤ 1000) (no : Int) (_hd : spanN blankB l / 2 ≤ 10) (hb : spanN blankB l % 2 = 0) (hz : (S.closed (spanN blankB l / 2)).2 = true) (he : (S.closed (spanN blankB l / 2)).1 = []) (h0 : spanN blankB l ≤ 0) (h1 : M.length ≤ 0) (h2 : (startX (l.drop (spanN blankB l)) S.xs).now ≠ wWhen ∧ (startX (l.drop (spanN blankB l)) S.xs).now ≠ wOn) (hq : (rend (rswitch (startX (l.drop (spanN blankB l)) S.xs)).2).e = 0) :
    Calls Tryz.prog 67 #[.pointer (some ⟨b, 0, none⟩), .string ⟨l.toArray⟩, .int .i64 no, pv] w fun e w' => LGood lo b (S.put [] (spanN blankB l / 2) (rswitch (startX (l.drop (spanN blankB l)) S.xs)).1 no (rswitch (startX (l.drop (spanN blankB l)) S.xs)).2.xs) no w e w' := by
  obtain ⟨na, nc, rfl⟩ := ownsRow_len h.tx.nodes
  have c6 := h.tx.rd.c6; have fz := h.tx.rd.fz
  have hsl := spanN_le blankB l
  have t0 : TxAt (w.setCell ⟨b, 6, none⟩ (.int .i64 no)) lo b ρ M s (.slice na M.length nc) vx vt no := h.tx.turn ((FrX.refl _ _ _).set _ _) (at_setCell h.tx.rd.blk 6 _) rfl rfl
  have hpb : pv.ownBlock ≠ some b := by
    intro x
    have := (h.rp b x).2
    rw [h.tx.rb.2] at this
    cases this
  have C := hide (rclosed_both _ lo b ρ M s (.slice na M.length nc) vx vt pv no S k t0 h.ns ok (by omega) (((FrX.refl b none w).set 6 (.int .i64 no)).own h.pile hpb (fun _ _ => by simp)) (spanN blankB l / 2) (by omega))
  have hcs := (closed_sub S (spanN blankB l / 2)).1
  have hcin := (closed_sub S (spanN blankB l / 2)).2
  have hxs := ok.xs; have hpl := ok.pile
  have hlim := start_lim (body := l.drop (spanN blankB l)) (xs := S.xs) (by rw [List.length_drop]; omega) (by omega)
  have L0 := hide (hlim.gr (k := 0) (Gr.refl _) (by omega)); have L4 := hide (hlim.gr (k := 400) (Gr.refl _) (by omega))
  have Bk := hide (fun w => rblanks_any ⟨l.toArray⟩ (by rw [rs_size l _ rfl]; omega) w)
  have hTk := hide (fun w => tokens_any (l.drop (spanN blankB l)) _ (cut_rest l (spanN blankB l)) (by rw [List.length_drop]; omega) w)
  have hsz : (⟨l.toArray⟩ : ByteArray).size = l.length := rs_size l _ rfl
  have E1 := hide (show spanN blankB (⟨l.toArray⟩ : ByteArray).data.toList = spanN blankB l by simp)
  have Hcin := hide hcin; have OK := hide ok
  have T0 := hide t0; have H := hide h
  have hml : M.length = S.nodes.length := by rw [← h.ns, List.length_map]
  have hmk := ok.nodes
  clear h t0 ok hlim hcin
  generalize S.closed (spanN blankB l / 2) = cl at *
  obtain ⟨cp, cz⟩ := cl
  simp only at hcs
  generalize hF : (startX (l.drop (spanN blankB l)) S.xs).now = F at *
  have HF := hide hF
  clear hF
  generalize hbb : spanN blankB l = bb at *
  clear hbb
  have hz : cz = true := hz
  subst hz
  have ep : (((bb : Nat) : Int) % 2 == 1) = false := by rw [beq_eq_false_iff_ne]; omega
  have he : cp = [] := he
  subst he
  have e2 : (F == [119, 104, 101, 110]) = false := by rw [beq_eq_false_iff_ne]; exact h2.1
  have e3 : (F == [111, 110]) = false := by rw [beq_eq_false_iff_ne]; exact h2.2
  clear h2
  have hq0 : (rend (rswitch (startX (l.drop bb) S.xs)).2).e = 0 := hq
  have Hq := hide hq0
  clear hq hq0
  have hlen : S.nodes.length = M.length := hml.symm
  clear hml hmk
  have Hlen := hide hlen
  clear hlen
  have HQ := hide (rend_xs (rswitch (startX (l.drop bb) S.xs)).2)
  go_enter Tryz.func67, Tryz.ntmps67
  go_wp2_with (first | (go_at_call 66; refine (Bk.out _).mono ?_; rw [E1.out]; rintro e wx ⟨rfl, hw⟩; have hw := hw.symm; subst hw) | (go_at_call 68; refine C.out.mono ?_; rintro e w1 ⟨pv1, rfl, p1, o1, b1⟩; obtain ⟨pa1, pc1, rfl⟩ := ownsRow_len p1; have t1 := T0.out.below b1; have T1 := hide t1; have P1 := hide p1; have O1 := hide o1; have B1 := hide b1; clear t1 p1 o1 b1) | (go_at_call 126; refine (hTk.out _).mono ?_; rintro e w2 ⟨vt2, rfl, hw2⟩; obtain ⟨va2, vc2, rfl⟩ := ownsRow_len hw2.own; have t2 := T1.out.below hw2.bel; have c2 := t2.rd.c2; have c3 := t2.rd.c3; have c4 := t2.rd.c4; have fz2 := t2.rd.fz; have W2 := hide hw2; clear t2 hw2) | (go_at_call 127; refine (now_park b (startX (l.drop bb) S.xs) (.slice na M.length nc) vx _ no _ (mid_rd H.out B1.out P1.out O1.out W2.out) L0.out (R := fun w' => Mid w w' lo b (fun g => if w1.heap.size ≤ g then .tks else ρ g) M S (l.drop bb) (.slice na M.length nc) vx (.slice va2 (toksF (l.drop bb)).length vc2) (.slice pa1 ([] : List Nat).length pc1) no []) (fun n => mid_of H.out B1.out P1.out O1.out W2.out n)).mono ?_; rw [HF.out]; rintro e w3 ⟨rfl, m3⟩; have c5 : w3.cell? ⟨b, 5, none⟩ = some (.int .i64 0) := m3.tx.rd.c5; have c0 := m3.tx.rd.c0; have M3 := hide m3; clear m3 c2 c3 c4 c6) | (go_at_call 129; refine (rest_any b w3.heap.size (startX (l.drop bb) S.xs) (.slice na M.length nc) vx _ no no (bb / 2) _ (rn_new M3.out HF.out (bb / 2) _ (by omega)) L4.out rfl).mono ?_; rintro e w5 ⟨rfl, vx5, r5, f5, n5⟩; have d0 := r5.rd.c0; have d5 := r5.rd.c5; rw [Hq.out] at d5; have R5 := hide r5; have F5 := hide f5; have N5 := hide n5; clear r5 f5 n5))
  obtain ⟨ρ5, t5, p5, rp5, b5, lo5⟩ := aft_of M3.out R5.out F5.out N5.out
  have pl5 : Pil w w5 lo b ρ5 M (rend (rswitch (startX (l.drop bb) S.xs)).2) (.slice na M.length nc) vx5 (.slice va2 (toksF (l.drop bb)).length vc2) (.slice pa1 ([] : List Nat).length pc1) no [] := ⟨t5, p5, rp5, b5, lo5⟩
  have hnd := R5.out.nd
  have hbk := t5.rd.blk
  generalize hQ : rswitch (startX (l.drop bb) S.xs) = Q at *
  have e0 : w5.cell? ⟨w3.heap.size, 0, none⟩ = some (.string ⟨Q.1.kind.toArray⟩) := cell_at hnd 0
  have e1 : w5.cell? ⟨w3.heap.size, 1, none⟩ = some (.int .i64 no) := cell_at hnd 1
  have e2 : w5.cell? ⟨w3.heap.size, 2, none⟩ = some (.int .i64 ((bb / 2 : Nat) : Int)) := cell_at hnd 2
  have e3 : w5.cell? ⟨w3.heap.size, 3, none⟩ = some (.string ⟨Q.1.name.toArray⟩) := cell_at hnd 3
  have e4 : w5.cell? ⟨w3.heap.size, 4, none⟩ = some (.string ⟨Q.1.over.toArray⟩) := cell_at hnd 4
  have e5 : w5.cell? ⟨w3.heap.size, 5, none⟩ = some (.int .i64 (exI Q.1.ex)) := cell_at hnd 5
  have e6 : w5.cell? ⟨w3.heap.size, 6, none⟩ = some (.slice none 0 0) := cell_at hnd 6
  have hlb := lt_of_at hbk
  have hnb := pl5.tx.nb'
  have Own5 := hide pl5.tx.nodes
  have law : ∀ (W : World), W.heap = w5.heap → ∀ (w6 : World), (W.alloc (.cells #[.string ⟨Q.1.kind.toArray⟩, .int .i64 no, .int .i64 ((bb / 2 : Nat) : Int), .string ⟨Q.1.name.toArray⟩, .string ⟨Q.1.over.toArray⟩, .int .i64 (exI Q.1.ex), .slice none 0 0] 145)).drew.grownBy w6 (Value.slice na M.length nc).ownBlock →
      w6.heap[b]? = some (.cells (textCells (rend Q.2) (.slice na M.length nc) vx5 (.slice va2 (toksF (l.drop bb)).length vc2) no) 138) := by
    intro W hW w6 g6
    rw [g6.block b (by show b < (W.alloc _).heap.size; simp [hW]; omega) (fun e => hnb e.symm)]
    show (W.alloc _).heap[b]? = _
    rw [Below.heap_alloc _ _ _ (by rw [hW]; exact hlb), hW]
    exact hbk
  have Law := hide law; have Pl5 := hide pl5
  clear law t5 p5 rp5 b5 lo5 hnd hbk pl5 hnb
  have hm1 : M.length + 1 ≤ 1000000 := by omega
  go_region_law (refine step_appendM (by decide) Tryz.underlying135 nodeInfo rfl (by decide) rfl _ _ rfl (.slice na M.length nc) M.length (nodesV M) (by simp [Act.eval]) (by exact (ownsRow_frame Own5.out (fun _ _ => rfl)).alloc _) ⟨w5.heap.size, 0, none⟩ 1 1 (nodeL ⟨Q.1.kind, no, bb / 2, Q.1.name, Q.1.over, Q.1.ex, []⟩ (.slice none 0 0)) (by simp [Act.eval]) rfl (by exact new_row _ _ rfl _ _) (nodeL_one _) hm1 ?_; intro v' w6 o6 g6 b6; obtain ⟨gn7, vc6, rfl⟩ := shape_pos o6 (Nat.succ_pos _); have hv6 := Law.out _ rfl _ g6; have f6 : w6.cell? ⟨b, 0, none⟩ = some (.slice na M.length nc) := cell_at hv6 0; have z6 : ∀ i, w6.frozen? ⟨b, i, none⟩ = false := (fun i => frozen_at hv6 i); have O6 := hide o6; have G6 := hide g6; have B6 := hide b6; have Hv6 := hide hv6; clear o6 g6 b6 hv6)
  all_goals
    obtain ⟨ρ7, pl7⟩ := Pl5.out.node (n := ⟨Q.1.kind, no, bb / 2, Q.1.name, Q.1.over, Q.1.ex, []⟩) rfl G6.out O6.out B6.out Hv6.out
    generalize (w6.setCell ⟨b, 0, none⟩ (.slice (some ⟨gn7, 0, none⟩) (M.length + 1) vc6)) = w7 at pl7 ⊢
    have Pl7 := hide pl7
    have c07 := pl7.tx.rd.c0
    clear pl7
    go_wp2_with (at_builtin; refine wpList_append1 Tryz.underlying36 (z := .int .i64 0) (bytes := 8) (by kernel_rfl) rfl (by decide) rfl _ _ rfl (.slice pa1 ([] : List Nat).length pc1) _ _ rfl (Pl7.out.pile.alloc _) ⟨w7.heap.size, 0, none⟩ 1 (.int .i64 M.length) rfl (new_cell _ _ rfl _ _) rfl (by simp) ?_; intro v9 w9 o9 g9 b9; have O9 := hide o9; have G9 := hide g9; have B9 := hide b9; clear o9 g9 b9)
    go_ret
    obtain ⟨ρ9, l9, b9⟩ := Pl7.out.done O9.out G9.out B9.out (S' := S.put [] (bb / 2) Q.1 no Q.2.xs) Hq.out HQ.out (by rw [List.map_append, H.out.ns]; rfl) (by show [] ++ [S.nodes.length] = [] ++ [M.length]; rw [Hlen.out])
    rw [← hQ] at l9
    exact ⟨_, _, _, _, _, _, _, rfl, l9, b9⟩
end Go.Proofs.YtnhidaamfnjdjaaGreatDoor
