import Derived.Test.YtnhidaamfnjdjaaGreatDoorRhP
import Derived.Test.YtnhidaamfnjdjaaGreatDoorRhH
namespace Go.Proofs.YtnhidaamfnjdjaaGreatDoor
open Go.RowKit Go.Maps

set_option maxRecDepth 20000 in
set_option maxHeartbeats 8000000 in
theorem line_s1 (w : World) (lo b : Nat) (ρ : Nat → Ro) (M : List (RNd × Value)) (S : RP) (s : XR) (vn vx vt pv : Value) (line : Int) (k : Nat) (h : LnAt w lo b ρ M S s vn vx vt pv line) (ok : SOk S k) (hk : k ≤ 800) (l : Bs) (hl : l.length ≤ 1000) (no : Int) (hd : spanN blankB l / 2 ≤ 10) (hb : spanN blankB l % 2 = 0) (hz : (S.closed (spanN blankB l / 2)).2 = true) (t : Nat) (ht : (S.closed (spanN blankB l / 2)).1.getLast? = some t) (hf : fitsB (S.at t) (startX (l.drop (spanN blankB l)) S.xs).now = true) (hi : (S.at t).inn + 1 = spanN blankB l / 2) (hq : (rend (rswitch (startX (l.drop (spanN blankB l)) S.xs)).2).e = 0) :
    Calls Tryz.prog 67 #[.pointer (some ⟨b, 0, none⟩), .string ⟨l.toArray⟩, .int .i64 no, pv] w fun e w' => LGood lo b (S.put (S.closed (spanN blankB l / 2)).1 (spanN blankB l / 2) (rswitch (startX (l.drop (spanN blankB l)) S.xs)).1 no (rswitch (startX (l.drop (spanN blankB l)) S.xs)).2.xs) no w e w' := by
  have hm0 : 0 < M.length := by
    have h1 := ok.pin t ((closed_sub S _).2 t (List.mem_of_getLast? ht))
    have h2 : M.length = S.nodes.length := by rw [← h.ns, List.length_map]
    omega
  obtain ⟨gN, nc, rfl⟩ := shape_pos h.tx.nodes hm0
  have c6 := h.tx.rd.c6; have fz := h.tx.rd.fz
  have hsl := spanN_le blankB l
  have t0 : TxAt (w.setCell ⟨b, 6, none⟩ (.int .i64 no)) lo b ρ M s (.slice (some ⟨gN, 0, none⟩) M.length nc) vx vt no := h.tx.turn ((FrX.refl _ _ _).set _ _) (at_setCell h.tx.rd.blk 6 _) rfl rfl
  have hpb : pv.ownBlock ≠ some b := by
    intro x
    have := (h.rp b x).2
    rw [h.tx.rb.2] at this
    cases this
  have C := hide (rclosed_both _ lo b ρ M s (.slice (some ⟨gN, 0, none⟩) M.length nc) vx vt pv no S k t0 h.ns ok (by omega) (((FrX.refl b none w).set 6 (.int .i64 no)).own h.pile hpb (fun _ _ => by simp)) (spanN blankB l / 2) (by omega))
  have hcs := (closed_sub S (spanN blankB l / 2)).1
  have hcin := (closed_sub S (spanN blankB l / 2)).2
  have hxs := ok.xs; have hpl := ok.pile
  have hlim := start_lim (body := l.drop (spanN blankB l)) (xs := S.xs) (by rw [List.length_drop]; omega) (by omega)
  have L0 := hide (hlim.gr (k := 0) (Gr.refl _) (by omega)); have L4 := hide (hlim.gr (k := 400) (Gr.refl _) (by omega))
  have Bk := hide (fun w => rblanks_any ⟨l.toArray⟩ (by rw [rs_size l _ rfl]; omega) w)
  have hTk := hide (fun w => tokens_any (l.drop (spanN blankB l)) _ (cut_rest l (spanN blankB l)) (by rw [List.length_drop]; omega) w)
  have hsz : (⟨l.toArray⟩ : ByteArray).size = l.length := rs_size l _ rfl
  have E1 := hide (show spanN blankB (⟨l.toArray⟩ : ByteArray).data.toList = spanN blankB l by simp)
  have Hcin := hide hcin; have OK := hide ok
  have T0 := hide t0; have H := hide h
  have hml : M.length = S.nodes.length := by rw [← h.ns, List.length_map]
  have hmk := ok.nodes
  clear h t0 ok hlim hcin
  generalize S.closed (spanN blankB l / 2) = cl at *
  obtain ⟨cp, cz⟩ := cl
  simp only at hcs
  generalize hF : (startX (l.drop (spanN blankB l)) S.xs).now = F at *
  have HF := hide hF
  clear hF
  generalize hbb : spanN blankB l = bb at *
  clear hbb
  have hz : cz = true := hz
  subst hz
  have ep : (((bb : Nat) : Int) % 2 == 1) = false := by rw [beq_eq_false_iff_ne]; omega
  have ht : cp.getLast? = some t := ht
  have hpos : 0 < cp.length := by
    cases cp with
    | nil => cases ht
    | cons a r => simp
  obtain ⟨n1, hn1⟩ : ∃ n1, cp.length = n1 + 1 := ⟨cp.length - 1, by omega⟩
  have htop : cp[n1]? = some t := by
    rw [List.getLast?_eq_getElem?, hn1] at ht
    simpa using ht
  have htm : t < M.length := by
    rw [hml]
    exact OK.out.pin t (Hcin.out t (List.mem_of_getElem? htop))
  obtain ⟨kv, hkv⟩ := getM H.out.ns htm
  have hkk := OK.out.kids t; have hki := OK.out.inn t
  have Hkv := hide hkv; have Htop := hide htop
  have hn1b : n1 + 1 ≤ 900 := by omega
  have hmb : M.length ≤ 900 := by omega
  have hlen : S.nodes.length = M.length := hml.symm
  have Hlen := hide hlen
  have Hlast := hide ht
  clear ht hkv htop hml hmk hcs hpl hlen
  have Hfit := hide hf
  clear hf
  have ei : (((S.at t).inn : Int) + 1 != ((bb : Nat) : Int) / 2) = false := by rw [bne_eq_false_iff_eq]; omega
  clear hi
  have hq0 : (rend (rswitch (startX (l.drop bb) S.xs)).2).e = 0 := hq
  have Hq := hide hq0
  clear hq hq0
  have HQ := hide (rend_xs (rswitch (startX (l.drop bb) S.xs)).2)
  go_enter Tryz.func67, Tryz.ntmps67
  go_wp2_with (first | (go_at_call 66; refine (Bk.out _).mono ?_; rw [E1.out]; rintro e wx ⟨rfl, hw⟩; have hw := hw.symm; subst hw) | (go_at_call 68; refine C.out.mono ?_; rintro e w1 ⟨pv1, rfl, p1, o1, b1⟩; obtain ⟨pg, pc1, pcur, hpv, _, hpc1, hpc2, _, _⟩ := ownsRow_shape p1 hpos; rw [hn1] at hpv hpc1; subst hpv; have t1 := T0.out.below b1; have T1 := hide t1; have P1 := hide p1; have O1 := hide o1; have B1 := hide b1; clear t1 p1 o1 b1) | (go_at_call 126; refine (hTk.out _).mono ?_; rintro e w2 ⟨vt2, rfl, hw2⟩; obtain ⟨va2, vc2, rfl⟩ := ownsRow_len hw2.own; have t2 := T1.out.below hw2.bel; have c2 := t2.rd.c2; have c3 := t2.rd.c3; have c4 := t2.rd.c4; have fz2 := t2.rd.fz; have W2 := hide hw2; clear t2 hw2) | (go_at_call 127; refine (now_park b (startX (l.drop bb) S.xs) (.slice (some ⟨gN, 0, none⟩) M.length nc) vx _ no _ (mid_rd H.out B1.out P1.out O1.out W2.out) L0.out (R := fun w' => Mid w w' lo b (fun g => if w1.heap.size ≤ g then .tks else ρ g) M S (l.drop bb) (.slice (some ⟨gN, 0, none⟩) M.length nc) vx (.slice va2 (toksF (l.drop bb)).length vc2) (.slice (some ⟨pg, 0, none⟩) (n1 + 1) pc1) no cp) (fun n => mid_of H.out B1.out P1.out O1.out W2.out n)).mono ?_; rw [HF.out]; rintro e w3 ⟨rfl, m3⟩; have c5 : w3.cell? ⟨b, 5, none⟩ = some (.int .i64 0) := m3.tx.rd.c5; have c0 := m3.tx.rd.c0; have tc := pile_top m3.pile Htop.out; have M3 := hide m3; clear m3 c2 c3 c4 c6) | (go_at_call 128; refine (rfits_any w3 lo b _ M _ (.slice (some ⟨gN, 0, none⟩) M.length nc) vx _ no M3.out.tx t (S.at t) kv Hkv.out (by omega) (by omega) F).mono ?_; rw [Hfit.out]; rintro e w4 ⟨rfl, b4⟩; have m4 := M3.out.below b4; have c54 : w4.cell? ⟨b, 5, none⟩ = some (.int .i64 0) := m4.tx.rd.c5; have c04 := m4.tx.rd.c0; have tc4 := pile_top m4.pile Htop.out; have hnc := node_at2 m4.tx.nodes Hkv.out; have hn4 := hnc.1.1; have hn5 := hnc.1.2; have d2 := hnc.2 2 _ rfl; have M4 := hide m4; clear m4 b4 hnc c0 c5))
  go_region
  have M5 := hide (M4.out.below (Below.refl _ _).drew)
  go_wp2_with (go_at_call 129; refine (rest_any b w4.drew.heap.size (startX (l.drop bb) S.xs) (.slice (some ⟨gN, 0, none⟩) M.length nc) vx _ no no (bb / 2) _ (rn_new M5.out HF.out (bb / 2) _ (by omega)) L4.out rfl).mono ?_; rintro e w5 ⟨rfl, vx5, r5, f5, n5⟩; have d0 := r5.rd.c0; have d5 := r5.rd.c5; rw [Hq.out] at d5; have R5 := hide r5; have F5 := hide f5; have N5 := hide n5; clear r5 f5 n5)
  obtain ⟨ρ5, t5, p5, rp5, b5, lo5⟩ := aft_of M5.out R5.out F5.out N5.out
  have pl5 : Pil w w5 lo b ρ5 M (rend (rswitch (startX (l.drop bb) S.xs)).2) (.slice (some ⟨gN, 0, none⟩) M.length nc) vx5 (.slice va2 (toksF (l.drop bb)).length vc2) (.slice (some ⟨pg, 0, none⟩) (n1 + 1) pc1) no cp := ⟨t5, p5, rp5, b5, lo5⟩
  have hnd := R5.out.nd
  have hbk := t5.rd.blk
  generalize hQ : rswitch (startX (l.drop bb) S.xs) = Q at *
  have e0 : w5.cell? ⟨w4.heap.size, 0, none⟩ = some (.string ⟨Q.1.kind.toArray⟩) := cell_at hnd 0
  have e1 : w5.cell? ⟨w4.heap.size, 1, none⟩ = some (.int .i64 no) := cell_at hnd 1
  have e2 : w5.cell? ⟨w4.heap.size, 2, none⟩ = some (.int .i64 ((bb / 2 : Nat) : Int)) := cell_at hnd 2
  have e3 : w5.cell? ⟨w4.heap.size, 3, none⟩ = some (.string ⟨Q.1.name.toArray⟩) := cell_at hnd 3
  have e4 : w5.cell? ⟨w4.heap.size, 4, none⟩ = some (.string ⟨Q.1.over.toArray⟩) := cell_at hnd 4
  have e5 : w5.cell? ⟨w4.heap.size, 5, none⟩ = some (.int .i64 (exI Q.1.ex)) := cell_at hnd 5
  have e6 : w5.cell? ⟨w4.heap.size, 6, none⟩ = some (.slice none 0 0) := cell_at hnd 6
  have hlb := lt_of_at hbk
  have hnb := pl5.tx.nb'
  have Own5 := hide pl5.tx.nodes
  have law : ∀ (W : World), W.heap = w5.heap → ∀ (w6 : World), (W.alloc (.cells #[.string ⟨Q.1.kind.toArray⟩, .int .i64 no, .int .i64 ((bb / 2 : Nat) : Int), .string ⟨Q.1.name.toArray⟩, .string ⟨Q.1.over.toArray⟩, .int .i64 (exI Q.1.ex), .slice none 0 0] 145)).drew.grownBy w6 (Value.slice (some ⟨gN, 0, none⟩) M.length nc).ownBlock →
      w6.heap[b]? = some (.cells (textCells (rend Q.2) (.slice (some ⟨gN, 0, none⟩) M.length nc) vx5 (.slice va2 (toksF (l.drop bb)).length vc2) no) 138) := by
    intro W hW w6 g6
    rw [g6.block b (by show b < (W.alloc _).heap.size; simp [hW]; omega) (fun e => hnb e.symm)]
    show (W.alloc _).heap[b]? = _
    rw [Below.heap_alloc _ _ _ (by rw [hW]; exact hlb), hW]
    exact hbk
  have Law := hide law; have Pl5 := hide pl5
  clear law t5 p5 rp5 b5 lo5 hnd hbk pl5 hnb
  have hm1 : M.length + 1 ≤ 1000000 := by omega
  go_region_law (refine step_appendM (by decide) Tryz.underlying135 nodeInfo rfl (by decide) rfl _ _ rfl (.slice (some ⟨gN, 0, none⟩) M.length nc) M.length (nodesV M) (by simp [Act.eval]) (by exact (ownsRow_frame Own5.out (fun _ _ => rfl)).alloc _) ⟨w5.heap.size, 0, none⟩ 1 1 (nodeL ⟨Q.1.kind, no, bb / 2, Q.1.name, Q.1.over, Q.1.ex, []⟩ (.slice none 0 0)) (by simp [Act.eval]) rfl (by exact new_row _ _ rfl _ _) (nodeL_one _) hm1 ?_; intro v' w6 o6 g6 b6; obtain ⟨gn7, vc6, rfl⟩ := shape_pos o6 (Nat.succ_pos _); have hv6 := Law.out _ rfl _ g6; have f6 : w6.cell? ⟨b, 0, none⟩ = some (.slice (some ⟨gN, 0, none⟩) M.length nc) := cell_at hv6 0; have z6 : ∀ i, w6.frozen? ⟨b, i, none⟩ = false := (fun i => frozen_at hv6 i); have O6 := hide o6; have G6 := hide g6; have B6 := hide b6; have Hv6 := hide hv6; clear o6 g6 b6 hv6)
  all_goals
    obtain ⟨ρ7, pl7⟩ := Pl5.out.node (n := ⟨Q.1.kind, no, bb / 2, Q.1.name, Q.1.over, Q.1.ex, []⟩) rfl G6.out O6.out B6.out Hv6.out
    generalize (w6.setCell ⟨b, 0, none⟩ (.slice (some ⟨gn7, 0, none⟩) (M.length + 1) vc6)) = w7 at pl7 ⊢
    have Pl7 := hide pl7
    have c07 := pl7.tx.rd.c0
    have hkv7 : (M ++ [((⟨Q.1.kind, no, bb / 2, Q.1.name, Q.1.over, Q.1.ex, []⟩ : RNd), Value.slice none 0 0)])[t]? = some (S.at t, kv) := by rw [List.getElem?_append_left htm]; exact Hkv.out
    have tc7 := pile_top pl7.pile Htop.out
    have ow7 := pl7.tx.nodes
    have hnc7 := node_at2 (M := M ++ [((⟨Q.1.kind, no, bb / 2, Q.1.name, Q.1.over, Q.1.ex, []⟩ : RNd), Value.slice none 0 0)]) (by rw [List.length_append, List.length_singleton] at ow7 ⊢; exact ow7) hkv7
    obtain ⟨⟨hn7, hc7⟩, hnc7⟩ := hnc7
    obtain ⟨ka7, kc7, hkv'⟩ := ownsRow_len (pl7.tx.kids t _ _ hkv7)
    have d67 := hnc7 6 _ rfl
    rw [List.length_append, List.length_singleton] at hn7 ow7
    have fz7 := (node_fz ow7).1
    have keep7 := (node_fz ow7).2
    have hgo : (Value.slice (some ⟨gn7, 0, none⟩) (M.length + 1) vc6).ownBlock = some gn7 := rfl
    have rgn := (pl7.tx.rn gn7 hgo).2
    have hgl := ownsRow_lt pl7.tx.nodes hgo
    have hkb := pl7.tx.kb hkv7
    have hkg : kv.ownBlock ≠ some gn7 := fun x => by
      have a := (pl7.tx.rk t _ _ hkv7 gn7 x).2
      rw [rgn] at a
      cases a
    have hb7 := pl7.tx.rd.blk
    have hlb7 := lt_of_at hb7
    have Kids7 := hide (pl7.tx.kids t _ _ hkv7)
    have law8 : ∀ (W : World), W.heap = w7.heap → ∀ (w8 : World), (W.alloc (.cells #[.int .i64 (M.length : Int)] 3)).drew.grownBy w8 kv.ownBlock →
        w8.heap[b]? = some (.cells (textCells (rend Q.2) (.slice (some ⟨gn7, 0, none⟩) (M.length + 1) vc6) vx5 (.slice va2 (toksF (l.drop bb)).length vc2) no) 138) ∧ w8.heap[gn7]? = w7.heap[gn7]? := by
      intro W hW w8 g8
      refine ⟨?_, ?_⟩
      · rw [g8.block b (by show b < (W.alloc _).heap.size; simp [hW]; omega) (fun e => hkb e.symm)]
        show (W.alloc _).heap[b]? = _
        rw [Below.heap_alloc _ _ _ (by rw [hW]; exact hlb7), hW]
        exact hb7
      · rw [g8.block gn7 (by show gn7 < (W.alloc _).heap.size; simp [hW]; omega) (fun e => hkg e.symm)]
        show (W.alloc _).heap[gn7]? = _
        rw [Below.heap_alloc _ _ _ (by rw [hW]; exact hgl), hW]
    have Law8 := hide law8; have Keep7 := hide keep7; have Hkv7 := hide hkv7
    clear pl7 law8 keep7 hkv7 hnc7 ow7 hb7 hkb hkg rgn hgo Law
    subst hkv'
    have hkl1 : (S.at t).kids.length + 1 ≤ 1000000 := by omega
    have hix : ((t : Nat) : Int) < (M.length : Int) + 1 := by omega
    go_wp2_with fail
    go_region_law (refine step_appendM (by decide) Tryz.underlying36 intInfo rfl (by decide) rfl _ _ rfl (.slice ka7 (S.at t).kids.length kc7) (S.at t).kids.length (intsV (S.at t).kids) (by simp [Act.eval]) (by exact (ownsRow_frame Kids7.out (fun _ _ => rfl)).alloc _) ⟨w7.heap.size, 0, none⟩ 1 1 [.int .i64 (M.length : Int)] (by simp [Act.eval]) rfl (by exact new_row _ _ rfl _ _) (by intro u hu; simp at hu; subst hu; rfl) hkl1 ?_; intro v' w8 o8 g8 b8; obtain ⟨va8, vc8, rfl⟩ := ownsRow_len o8; have hv8 := Law8.out _ rfl _ g8; have f8 : w8.cell? ⟨b, 0, none⟩ = some (.slice (some ⟨gn7, 0, none⟩) (M.length + 1) vc6) := cell_at hv8.1 0; have kz := Keep7.out w8 hv8.2; have z8 := kz.1; have k8 : w8.cell? ⟨gn7, t * 7 + 6, none⟩ = some (.slice ka7 (S.at t).kids.length kc7) := (kz.2 _).trans d67; have O8 := hide o8; have G8 := hide g8; have B8 := hide b8; clear o8 g8 b8 hv8 kz)
    all_goals
      obtain ⟨ρ8, pl8⟩ := Pl7.out.kid (k := M.length) Hkv7.out (by rw [List.length_append, List.length_singleton]) G8.out O8.out B8.out
      generalize (w8.setCell ⟨gn7, t * 7 + 6, none⟩ (.slice va8 ((S.at t).kids.length + 1) vc8)) = wa at pl8 ⊢
      have Pl8 := hide pl8
      clear pl8
      go_wp2_with (at_builtin; refine wpList_append1 Tryz.underlying36 (z := .int .i64 0) (bytes := 8) (by kernel_rfl) rfl (by decide) rfl _ _ rfl (.slice (some ⟨pg, 0, none⟩) (n1 + 1) pc1) _ _ rfl (Pl8.out.pile.alloc _) ⟨wa.heap.size, 0, none⟩ 1 (.int .i64 M.length) rfl (new_cell _ _ rfl _ _) rfl (by omega) ?_; intro v9 w9 o9 g9 b9; have O9 := hide o9; have G9 := hide g9; have B9 := hide b9; clear o9 g9 b9)
      go_ret
      obtain ⟨ρ9, l9, b9⟩ := Pl8.out.done O9.out G9.out B9.out (S' := S.put cp (bb / 2) Q.1 no Q.2.xs) Hq.out HQ.out (put_nodes H.out.ns htm Hlast.out _ _ _ _ _ _) (by show cp ++ [S.nodes.length] = cp ++ [M.length]; rw [Hlen.out])
      rw [← hQ] at l9
      exact ⟨_, _, _, _, _, _, _, rfl, l9, b9⟩
end Go.Proofs.YtnhidaamfnjdjaaGreatDoor
