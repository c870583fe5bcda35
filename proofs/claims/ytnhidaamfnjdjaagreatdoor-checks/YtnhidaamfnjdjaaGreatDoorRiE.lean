import Derived.Test.YtnhidaamfnjdjaaGreatDoorRiB
import Derived.Test.YtnhidaamfnjdjaaGreatDoorRhP
namespace Go.Proofs.YtnhidaamfnjdjaaGreatDoor
open Go.RowKit Go.Maps

def flatR (R : Nat → List (Int × Nat)) (ks : List Nat) : List (Int × Nat) := (ks.map R).flatten
theorem flatR_take (R : Nat → List (Int × Nat)) (ks : List Nat) (j : Nat) (hj : j < ks.length) : flatR R (ks.take (j + 1)) = flatR R (ks.take j) ++ R ks[j] := by
  unfold flatR
  rw [List.take_add_one, List.getElem?_eq_getElem hj, List.map_append, List.flatten_append]
  simp
theorem UseAt.more {WA w2 W w3 : World} {v v' : Value} {u u2 : List (Int × Nat)} (h : UseAt WA w2 v u) (hW : Below w2.heap.size w2 W) (O3 : w3.ownsRow 0 187 2 v' (u.length + u2.length) (usesV u ++ usesV u2)) (G3 : W.grownBy w3 v.ownBlock) (B3 : v'.ownBlock = v.ownBlock ∨ ∃ g, v'.ownBlock = some g ∧ W.heap.size ≤ g) : UseAt WA w3 v' (u ++ u2) := by
  have z1 := h.bel.size
  have z2 := hW.size
  refine ⟨by rw [List.length_append, usesV_append]; exact O3, fun g hg => ?_, bgrow (below_trans h.bel hW h.bel.size) G3 h.new⟩
  rcases B3 with e | ⟨g', e, hg'⟩
  · exact h.new g (by rw [← e]; exact hg)
  · rw [e] at hg
    injection hg with hg
    omega
theorem UseAt.nil (WA : World) : UseAt WA WA (.slice none 0 0) [] := ⟨World.ownsRow_nil _ _ _ _, fun g hg => by simp [Value.ownBlock] at hg, Below.refl _ _⟩
theorem UseAt.end {w w' : World} {O : Obj} {v : Value} {u : List (Int × Nat)} (h : UseAt (w.alloc O) w' v u) : UseAt w w' v u := ⟨h.own, fun g hg => by have := h.new g hg; simp at this; omega, below_trans (below_alloc w O) h.bel (by simp)⟩
theorem UseAt.end2 {w w2 w' : World} {v : Value} {u : List (Int × Nat)} (h : UseAt w2 w' v u) (hb : Below w.heap.size w w2) : UseAt w w' v u := ⟨h.own, fun g hg => by have := h.new g hg; have := hb.size; omega, below_trans hb h.bel hb.size⟩
theorem flatR_le (R : Nat → List (Int × Nat)) (ks : List Nat) (j : Nat) : (flatR R (ks.take j)).length ≤ (flatR R ks).length := by
  conv => rhs; rw [show ks = ks.take j ++ ks.drop j from (List.take_append_drop _ _).symm]
  unfold flatR
  rw [List.map_append, List.flatten_append, List.length_append]
  omega

set_option maxRecDepth 20000 in
set_option maxHeartbeats 8000000 in
theorem us_b0 {lo b : Nat} {ρ : Nat → Ro} {M : List (RNd × Value)} {s : XR} {vn vx vt : Value} {line : Int} {l : List RDc} {la : Option Addr} {lc : Nat} (w : World) (see : See w lo b ρ M s vn vx vt line l (.slice la l.length lc)) {k : Nat} {n : RNd} {kv : Value} (hk : M[k]? = some (n, kv)) (_hm : M.length ≤ 2000) (_hkl : n.kids.length ≤ 2000) (hex : n.ex = none) (hov : n.over = []) (hnm : n.name = []) (hkd : n.kind ≠ wVar ∧ n.kind ≠ wChan) (R : Nat → List (Int × Nat)) (hlen : (([] : List (Int × Nat))).length + (flatR R n.kids).length ≤ 900000) (K : ∀ kid ∈ n.kids, ∀ (w' : World) (lv : Value), See w' lo b ρ M s vn vx vt line l lv → Calls Tryz.prog 72 #[.pointer (some ⟨b, 0, none⟩), lv, .int .i64 kid] w' fun e w'' => ∃ v, e = .returned v ∧ UseAt w' w'' v (R kid)) :
    Calls Tryz.prog 72 #[.pointer (some ⟨b, 0, none⟩), .slice la l.length lc, .int .i64 k] w fun e w' => ∃ v, e = .returned v ∧ UseAt w w' v ((([] : List (Int × Nat))) ++ flatR R n.kids) := by
  have c0 := see.tx.rd.c0
  obtain ⟨gn, capn, hvn, h1, h2, hc⟩ := node_at see.tx.nodes hk
  obtain ⟨ka, kc, hkv⟩ := ownsRow_len (see.tx.kids k n kv hk)
  have hlt : k < M.length := (List.getElem?_eq_some_iff.1 hk).1
  have Kd := hide (see.tx.kids k n kv hk)
  have d0 := hc 0 _ rfl; rw [Nat.add_zero] at d0; have d1 := hc 1 _ rfl; have d2 := hc 2 _ rfl; have d3 := hc 3 _ rfl; have d4 := hc 4 _ rfl; have d5 := hc 5 _ rfl; have d6 := hc 6 _ rfl
  rw [hvn] at c0
  subst hkv
  have Sd := hide see; have Hk := hide hk
  have Me := hide (fun t ch w h => rmeans_any l (.slice la l.length lc) t ch w h see.few)
  clear see hc hk hvn
  rw [hex] at d5
  replace d5 : w.cell? ⟨gn, k * 7 + 5, none⟩ = some (.int .i64 (-1)) := d5
  have eo : (n.over == []) = true := by rw [hov]; rfl
  have en : (n.name == []) = true := by rw [hnm]; rfl
  have kd1 : (n.kind == [118, 97, 114]) = false := by rw [beq_eq_false_iff_ne]; exact hkd.1
  have kd2 : (n.kind == [99, 104, 97, 110]) = false := by rw [beq_eq_false_iff_ne]; exact hkd.2
  clear hkd hov hnm hex Me
  have KK := hide K
  clear K
  generalize hml : M.length = m at *
  clear hml
  go_enter Tryz.func72, Tryz.ntmps72
  go_wp2_with fail
  go_loopw [8, 10] (fun out i wr => ∃ j : Nat, j ≤ n.kids.length ∧ i = .int .i64 j ∧ UseAt (w.alloc (.cells #[.string ⟨n.kind.toArray⟩, .int .i64 n.line, .int .i64 n.inn, .string ⟨n.name.toArray⟩, .string ⟨n.over.toArray⟩, .int .i64 (-1), .slice ka n.kids.length kc] 145)) wr out ((([] : List (Int × Nat))) ++ flatR R (n.kids.take j))) (fun _ i _ => n.kids.length - (intOf i).toNat)
  case atStart => exact ⟨0, Nat.zero_le _, rfl, by simpa [flatR] using (UseAt.nil (w.alloc (.cells #[.string ⟨n.kind.toArray⟩, .int .i64 n.line, .int .i64 n.inn, .string ⟨n.name.toArray⟩, .string ⟨n.over.toArray⟩, .int .i64 (-1), .slice ka n.kids.length kc] 145)))⟩
  case round =>
    obtain ⟨j, hj, rfl, hu⟩ := hrel
    have hQ := Below.at hu.bel (at_new w _) (by simp)
    have y6 : wr.cell? ⟨w.heap.size, 6, none⟩ = some (.slice ka n.kids.length kc) := cell_at hQ 6
    have hbb := below_trans (below_alloc w _) hu.bel (by simp)
    have hle := flatR_le R n.kids j
    have hle2 := flatR_le R n.kids (j + 1)
    have Hu := hide hu
    by_cases hl2 : j < n.kids.length
    · have hrow := row_below hbb Kd.out
      obtain ⟨g, cap, hsh⟩ := shape_pos hrow (by omega)
      simp only [Value.slice.injEq, true_and] at hsh
      obtain ⟨rfl, rfl⟩ := hsh
      have kc5 := pile_top hrow (List.getElem?_eq_getElem hl2)
      have C := hide (KK.out n.kids[j] (List.getElem_mem hl2) wr (.slice la l.length lc) (Sd.out.below (below_trans (below_alloc w _) hu.bel (by simp))))
      have hft := flatR_take R n.kids j hl2
      rw [hft, List.length_append] at hle2
      have Ht := hide hft
      have hb9 : ((([] : List (Int × Nat))) ++ flatR R (n.kids.take j)).length + (R n.kids[j]).length ≤ 1000000 := by rw [List.length_append]; omega
      have Hb9 := hide hb9
      clear hb9
      clear hrow hft hu hQ hbb
      generalize R n.kids[j] = rk at *
      generalize n.kids[j] = kid at *
      go_wp2_with (first | (go_at_call 72; refine C.out.mono ?_; rintro e w7 ⟨v7, rfl, u7⟩; have U7 := hide u7; clear u7) | (at_builtin; refine wpList_appendV (by decide) Tryz.underlying149 useInfo rfl (by decide) rfl _ _ rfl u8 ((([] : List (Int × Nat))) ++ flatR R (n.kids.take j)).length (usesV ((([] : List (Int × Nat))) ++ flatR R (n.kids.take j))) rfl (row_below U7.out.bel Hu.out.own) v7 rk.length (usesV rk) rfl U7.out.own (usesV_one _) Hb9.out ?_; intro v8 w8 o8 g8 b8; have um := Hu.out.more U7.out.bel o8 g8 b8; have U8 := hide um; have G8 := hide g8; clear o8 g8 b8 um))
      go_roundw
      case rel =>
        refine ⟨j + 1, by omega, by go_num, ?_⟩
        · rw [Ht.out, ← List.append_assoc]; exact U8.out
      case measure => simp [intOf]; omega
    · have hje : n.kids.take j = n.kids := List.take_of_length_le (by omega)
      rw [hje] at Hu
      clear hu hQ hbb
      go_wp2_with fail
      go_ret
      exact ⟨_, rfl, Hu.out.end⟩

set_option maxRecDepth 20000 in
set_option maxHeartbeats 8000000 in
theorem us_b1 {lo b : Nat} {ρ : Nat → Ro} {M : List (RNd × Value)} {s : XR} {vn vx vt : Value} {line : Int} {l : List RDc} {la : Option Addr} {lc : Nat} (w : World) (see : See w lo b ρ M s vn vx vt line l (.slice la l.length lc)) {k : Nat} {n : RNd} {kv : Value} (hk : M[k]? = some (n, kv)) (_hm : M.length ≤ 2000) (_hkl : n.kids.length ≤ 2000) {pe : PE} {ei : Nat} (hex : n.ex = some ei) (rep : RepX s.xs ei pe) (hlp : leavesP pe ≤ 100000) (hov : n.over = []) (hnm : n.name = []) (hkd : n.kind ≠ wVar ∧ n.kind ≠ wChan) (R : Nat → List (Int × Nat)) (hlen : (rasks l pe).length + (flatR R n.kids).length ≤ 900000) (K : ∀ kid ∈ n.kids, ∀ (w' : World) (lv : Value), See w' lo b ρ M s vn vx vt line l lv → Calls Tryz.prog 72 #[.pointer (some ⟨b, 0, none⟩), lv, .int .i64 kid] w' fun e w'' => ∃ v, e = .returned v ∧ UseAt w' w'' v (R kid)) :
    Calls Tryz.prog 72 #[.pointer (some ⟨b, 0, none⟩), .slice la l.length lc, .int .i64 k] w fun e w' => ∃ v, e = .returned v ∧ UseAt w w' v ((rasks l pe) ++ flatR R n.kids) := by
  have c0 := see.tx.rd.c0
  obtain ⟨gn, capn, hvn, h1, h2, hc⟩ := node_at see.tx.nodes hk
  obtain ⟨ka, kc, hkv⟩ := ownsRow_len (see.tx.kids k n kv hk)
  have hlt : k < M.length := (List.getElem?_eq_some_iff.1 hk).1
  have Kd := hide (see.tx.kids k n kv hk)
  have d0 := hc 0 _ rfl; rw [Nat.add_zero] at d0; have d1 := hc 1 _ rfl; have d2 := hc 2 _ rfl; have d3 := hc 3 _ rfl; have d4 := hc 4 _ rfl; have d5 := hc 5 _ rfl; have d6 := hc 6 _ rfl
  rw [hvn] at c0
  subst hkv
  have Sd := hide see; have Hk := hide hk
  have Me := hide (fun t ch w h => rmeans_any l (.slice la l.length lc) t ch w h see.few)
  clear see hc hk hvn
  rw [hex] at d5
  replace d5 : w.cell? ⟨gn, k * 7 + 5, none⟩ = some (.int .i64 (ei : Int)) := d5
  have Ex := hide (fun w' h => exprUses_any (la := la) (lc := lc) (l := l) (lo := lo) (b := b) (ρ := ρ) (M := M) (vn := vn) (vx := vx) (vt := vt) (line := line) rep w' h hlp)
  have hra := rasks_len l pe
  generalize rasks l pe = ua at *
  have eo : (n.over == []) = true := by rw [hov]; rfl
  have en : (n.name == []) = true := by rw [hnm]; rfl
  have kd1 : (n.kind == [118, 97, 114]) = false := by rw [beq_eq_false_iff_ne]; exact hkd.1
  have kd2 : (n.kind == [99, 104, 97, 110]) = false := by rw [beq_eq_false_iff_ne]; exact hkd.2
  clear hkd hov hnm hex Me
  have KK := hide K
  clear K
  generalize hml : M.length = m at *
  clear hml
  go_enter Tryz.func72, Tryz.ntmps72
  go_wp2_with (first | (go_at_call 132; refine (Ex.out _ (Sd.out.below (below_alloc _ _))).mono ?_; rintro e w1 ⟨v1, rfl, u1⟩; have q1 := Below.at u1.bel (at_new w _) (by simp); have x10 := cell_at q1 0; have x13 := cell_at q1 3; have x14 := cell_at q1 4; have x16 := cell_at q1 6; have U1 := hide u1; clear u1 q1 Ex))
  go_loopw [8, 10] (fun out i wr => ∃ j : Nat, j ≤ n.kids.length ∧ i = .int .i64 j ∧ UseAt (w.alloc (.cells #[.string ⟨n.kind.toArray⟩, .int .i64 n.line, .int .i64 n.inn, .string ⟨n.name.toArray⟩, .string ⟨n.over.toArray⟩, .int .i64 (ei : Int), .slice ka n.kids.length kc] 145)) wr out ((ua) ++ flatR R (n.kids.take j))) (fun _ i _ => n.kids.length - (intOf i).toNat)
  case atStart => exact ⟨0, Nat.zero_le _, rfl, by simpa [flatR] using U1.out⟩
  case round =>
    obtain ⟨j, hj, rfl, hu⟩ := hrel
    have hQ := Below.at hu.bel (at_new w _) (by simp)
    have y6 : wr.cell? ⟨w.heap.size, 6, none⟩ = some (.slice ka n.kids.length kc) := cell_at hQ 6
    have hbb := below_trans (below_alloc w _) hu.bel (by simp)
    have hle := flatR_le R n.kids j
    have hle2 := flatR_le R n.kids (j + 1)
    have Hu := hide hu
    by_cases hl2 : j < n.kids.length
    · have hrow := row_below hbb Kd.out
      obtain ⟨g, cap, hsh⟩ := shape_pos hrow (by omega)
      simp only [Value.slice.injEq, true_and] at hsh
      obtain ⟨rfl, rfl⟩ := hsh
      have kc5 := pile_top hrow (List.getElem?_eq_getElem hl2)
      have C := hide (KK.out n.kids[j] (List.getElem_mem hl2) wr (.slice la l.length lc) (Sd.out.below (below_trans (below_alloc w _) hu.bel (by simp))))
      have hft := flatR_take R n.kids j hl2
      rw [hft, List.length_append] at hle2
      have Ht := hide hft
      have hb9 : ((ua) ++ flatR R (n.kids.take j)).length + (R n.kids[j]).length ≤ 1000000 := by rw [List.length_append]; omega
      have Hb9 := hide hb9
      clear hb9
      clear hrow hft hu hQ hbb
      generalize R n.kids[j] = rk at *
      generalize n.kids[j] = kid at *
      go_wp2_with (first | (go_at_call 72; refine C.out.mono ?_; rintro e w7 ⟨v7, rfl, u7⟩; have U7 := hide u7; clear u7) | (at_builtin; refine wpList_appendV (by decide) Tryz.underlying149 useInfo rfl (by decide) rfl _ _ rfl u8 ((ua) ++ flatR R (n.kids.take j)).length (usesV ((ua) ++ flatR R (n.kids.take j))) rfl (row_below U7.out.bel Hu.out.own) v7 rk.length (usesV rk) rfl U7.out.own (usesV_one _) Hb9.out ?_; intro v8 w8 o8 g8 b8; have um := Hu.out.more U7.out.bel o8 g8 b8; have U8 := hide um; have G8 := hide g8; clear o8 g8 b8 um))
      go_roundw
      case rel =>
        refine ⟨j + 1, by omega, by go_num, ?_⟩
        · rw [Ht.out, ← List.append_assoc]; exact U8.out
      case measure => simp [intOf]; omega
    · have hje : n.kids.take j = n.kids := List.take_of_length_le (by omega)
      rw [hje] at Hu
      clear hu hQ hbb
      go_wp2_with fail
      go_ret
      exact ⟨_, rfl, Hu.out.end⟩

set_option maxRecDepth 20000 in
set_option maxHeartbeats 8000000 in
theorem us_c0 {lo b : Nat} {ρ : Nat → Ro} {M : List (RNd × Value)} {s : XR} {vn vx vt : Value} {line : Int} {l : List RDc} {la : Option Addr} {lc : Nat} (w : World) (see : See w lo b ρ M s vn vx vt line l (.slice la l.length lc)) {k : Nat} {n : RNd} {kv : Value} (hk : M[k]? = some (n, kv)) (_hm : M.length ≤ 2000) (_hkl : n.kids.length ≤ 2000) (hex : n.ex = none) (hov : n.over = []) (hnm : n.name ≠ []) (hkd : n.kind ≠ wVar ∧ n.kind ≠ wChan) (R : Nat → List (Int × Nat)) (hlen : (([] : List (Int × Nat)) ++ [(rmeans l n.name false, 1)]).length + (flatR R n.kids).length ≤ 900000) (K : ∀ kid ∈ n.kids, ∀ (w' : World) (lv : Value), See w' lo b ρ M s vn vx vt line l lv → Calls Tryz.prog 72 #[.pointer (some ⟨b, 0, none⟩), lv, .int .i64 kid] w' fun e w'' => ∃ v, e = .returned v ∧ UseAt w' w'' v (R kid)) :
    Calls Tryz.prog 72 #[.pointer (some ⟨b, 0, none⟩), .slice la l.length lc, .int .i64 k] w fun e w' => ∃ v, e = .returned v ∧ UseAt w w' v ((([] : List (Int × Nat)) ++ [(rmeans l n.name false, 1)]) ++ flatR R n.kids) := by
  have c0 := see.tx.rd.c0
  obtain ⟨gn, capn, hvn, h1, h2, hc⟩ := node_at see.tx.nodes hk
  obtain ⟨ka, kc, hkv⟩ := ownsRow_len (see.tx.kids k n kv hk)
  have hlt : k < M.length := (List.getElem?_eq_some_iff.1 hk).1
  have Kd := hide (see.tx.kids k n kv hk)
  have d0 := hc 0 _ rfl; rw [Nat.add_zero] at d0; have d1 := hc 1 _ rfl; have d2 := hc 2 _ rfl; have d3 := hc 3 _ rfl; have d4 := hc 4 _ rfl; have d5 := hc 5 _ rfl; have d6 := hc 6 _ rfl
  rw [hvn] at c0
  subst hkv
  have Sd := hide see; have Hk := hide hk
  have Me := hide (fun t ch w h => rmeans_any l (.slice la l.length lc) t ch w h see.few)
  clear see hc hk hvn
  rw [hex] at d5
  replace d5 : w.cell? ⟨gn, k * 7 + 5, none⟩ = some (.int .i64 (-1)) := d5
  have eo : (n.over == []) = true := by rw [hov]; rfl
  have en : (n.name == []) = false := by rw [beq_eq_false_iff_ne]; exact hnm
  have kd1 : (n.kind == [118, 97, 114]) = false := by rw [beq_eq_false_iff_ne]; exact hkd.1
  have kd2 : (n.kind == [99, 104, 97, 110]) = false := by rw [beq_eq_false_iff_ne]; exact hkd.2
  have Mn := hide (Me.out n.name false)
  generalize rmeans l n.name false = zn at *
  have hb2 : (([] : List (Int × Nat))).length + 1 ≤ 1000000 := by (simp at hlen ⊢) <;> omega
  clear hkd hov hnm hex Me
  have KK := hide K
  clear K
  generalize hml : M.length = m at *
  clear hml
  go_enter Tryz.func72, Tryz.ntmps72
  go_wp2_with (first | (go_at_call 70; refine (Mn.out _ (Sd.out.below (below_trans (below_alloc w _) (UseAt.nil (w.alloc (.cells #[.string ⟨n.kind.toArray⟩, .int .i64 n.line, .int .i64 n.inn, .string ⟨n.name.toArray⟩, .string ⟨n.over.toArray⟩, .int .i64 (-1), .slice ka n.kids.length kc] 145))).bel (by simp))).dl).mono ?_; rintro e wx ⟨rfl, nd2, rfl⟩; clear Mn) | (at_builtin; refine wpList_appendM (by decide) Tryz.underlying149 useInfo rfl (by decide) rfl _ _ rfl (.slice none 0 0) (([] : List (Int × Nat))).length (usesV (([] : List (Int × Nat)))) rfl (by exact (ownsRow_frame (UseAt.nil (w.alloc (.cells #[.string ⟨n.kind.toArray⟩, .int .i64 n.line, .int .i64 n.inn, .string ⟨n.name.toArray⟩, .string ⟨n.over.toArray⟩, .int .i64 (-1), .slice ka n.kids.length kc] 145))).own (fun _ _ => rfl)).alloc _) ⟨w.heap.size + 1, 0, none⟩ 1 1 (useV (zn, 1)) rfl rfl (by exact new_row _ _ (by simp) _ _) (useV_one _) hb2 ?_; intro v2 w2 o2 g2 b2; have u2 := (UseAt.nil (w.alloc (.cells #[.string ⟨n.kind.toArray⟩, .int .i64 n.line, .int .i64 n.inn, .string ⟨n.name.toArray⟩, .string ⟨n.over.toArray⟩, .int .i64 (-1), .slice ka n.kids.length kc] 145))).more (u2 := [(zn, 1)]) (below_trans (below_drewN (Below.refl _ _) nd2) (below_alloc _ _) (Nat.le_refl _)) (by simpa [usesV] using o2) g2 b2; have q2 := Below.at u2.bel (at_new w _) (by simp); have x20 := cell_at q2 0; have x23 := cell_at q2 3; have x26 := cell_at q2 6; have U2 := hide u2; clear o2 g2 b2 u2 q2 hb2))
  go_loopw [8, 10] (fun out i wr => ∃ j : Nat, j ≤ n.kids.length ∧ i = .int .i64 j ∧ UseAt (w.alloc (.cells #[.string ⟨n.kind.toArray⟩, .int .i64 n.line, .int .i64 n.inn, .string ⟨n.name.toArray⟩, .string ⟨n.over.toArray⟩, .int .i64 (-1), .slice ka n.kids.length kc] 145)) wr out (((([] : List (Int × Nat)) ++ [(zn, 1)])) ++ flatR R (n.kids.take j))) (fun _ i _ => n.kids.length - (intOf i).toNat)
  case atStart => exact ⟨0, Nat.zero_le _, rfl, by simpa [flatR] using U2.out⟩
  case round =>
    obtain ⟨j, hj, rfl, hu⟩ := hrel
    have hQ := Below.at hu.bel (at_new w _) (by simp)
    have y6 : wr.cell? ⟨w.heap.size, 6, none⟩ = some (.slice ka n.kids.length kc) := cell_at hQ 6
    have hbb := below_trans (below_alloc w _) hu.bel (by simp)
    have hle := flatR_le R n.kids j
    have hle2 := flatR_le R n.kids (j + 1)
    have Hu := hide hu
    by_cases hl2 : j < n.kids.length
    · have hrow := row_below hbb Kd.out
      obtain ⟨g, cap, hsh⟩ := shape_pos hrow (by omega)
      simp only [Value.slice.injEq, true_and] at hsh
      obtain ⟨rfl, rfl⟩ := hsh
      have kc5 := pile_top hrow (List.getElem?_eq_getElem hl2)
      have C := hide (KK.out n.kids[j] (List.getElem_mem hl2) wr (.slice la l.length lc) (Sd.out.below (below_trans (below_alloc w _) hu.bel (by simp))))
      have hft := flatR_take R n.kids j hl2
      rw [hft, List.length_append] at hle2
      have Ht := hide hft
      have hb9 : (((([] : List (Int × Nat)) ++ [(zn, 1)])) ++ flatR R (n.kids.take j)).length + (R n.kids[j]).length ≤ 1000000 := by rw [List.length_append]; omega
      have Hb9 := hide hb9
      clear hb9
      clear hrow hft hu hQ hbb
      generalize R n.kids[j] = rk at *
      generalize n.kids[j] = kid at *
      go_wp2_with (first | (go_at_call 72; refine C.out.mono ?_; rintro e w7 ⟨v7, rfl, u7⟩; have U7 := hide u7; clear u7) | (at_builtin; refine wpList_appendV (by decide) Tryz.underlying149 useInfo rfl (by decide) rfl _ _ rfl u8 (((([] : List (Int × Nat)) ++ [(zn, 1)])) ++ flatR R (n.kids.take j)).length (usesV (((([] : List (Int × Nat)) ++ [(zn, 1)])) ++ flatR R (n.kids.take j))) rfl (row_below U7.out.bel Hu.out.own) v7 rk.length (usesV rk) rfl U7.out.own (usesV_one _) Hb9.out ?_; intro v8 w8 o8 g8 b8; have um := Hu.out.more U7.out.bel o8 g8 b8; have U8 := hide um; have G8 := hide g8; clear o8 g8 b8 um))
      go_roundw
      case rel =>
        refine ⟨j + 1, by omega, by go_num, ?_⟩
        · rw [Ht.out, ← List.append_assoc]; exact U8.out
      case measure => simp [intOf]; omega
    · have hje : n.kids.take j = n.kids := List.take_of_length_le (by omega)
      rw [hje] at Hu
      clear hu hQ hbb
      go_wp2_with fail
      go_ret
      exact ⟨_, rfl, Hu.out.end⟩

set_option maxRecDepth 20000 in
set_option maxHeartbeats 8000000 in
theorem us_c1 {lo b : Nat} {ρ : Nat → Ro} {M : List (RNd × Value)} {s : XR} {vn vx vt : Value} {line : Int} {l : List RDc} {la : Option Addr} {lc : Nat} (w : World) (see : See w lo b ρ M s vn vx vt line l (.slice la l.length lc)) {k : Nat} {n : RNd} {kv : Value} (hk : M[k]? = some (n, kv)) (_hm : M.length ≤ 2000) (_hkl : n.kids.length ≤ 2000) {pe : PE} {ei : Nat} (hex : n.ex = some ei) (rep : RepX s.xs ei pe) (hlp : leavesP pe ≤ 100000) (hov : n.over = []) (hnm : n.name ≠ []) (hkd : n.kind ≠ wVar ∧ n.kind ≠ wChan) (R : Nat → List (Int × Nat)) (hlen : (rasks l pe ++ [(rmeans l n.name false, 1)]).length + (flatR R n.kids).length ≤ 900000) (K : ∀ kid ∈ n.kids, ∀ (w' : World) (lv : Value), See w' lo b ρ M s vn vx vt line l lv → Calls Tryz.prog 72 #[.pointer (some ⟨b, 0, none⟩), lv, .int .i64 kid] w' fun e w'' => ∃ v, e = .returned v ∧ UseAt w' w'' v (R kid)) :
    Calls Tryz.prog 72 #[.pointer (some ⟨b, 0, none⟩), .slice la l.length lc, .int .i64 k] w fun e w' => ∃ v, e = .returned v ∧ UseAt w w' v ((rasks l pe ++ [(rmeans l n.name false, 1)]) ++ flatR R n.kids) := by
  have c0 := see.tx.rd.c0
  obtain ⟨gn, capn, hvn, h1, h2, hc⟩ := node_at see.tx.nodes hk
  obtain ⟨ka, kc, hkv⟩ := ownsRow_len (see.tx.kids k n kv hk)
  have hlt : k < M.length := (List.getElem?_eq_some_iff.1 hk).1
  have Kd := hide (see.tx.kids k n kv hk)
  have d0 := hc 0 _ rfl; rw [Nat.add_zero] at d0; have d1 := hc 1 _ rfl; have d2 := hc 2 _ rfl; have d3 := hc 3 _ rfl; have d4 := hc 4 _ rfl; have d5 := hc 5 _ rfl; have d6 := hc 6 _ rfl
  rw [hvn] at c0
  subst hkv
  have Sd := hide see; have Hk := hide hk
  have Me := hide (fun t ch w h => rmeans_any l (.slice la l.length lc) t ch w h see.few)
  clear see hc hk hvn
  rw [hex] at d5
  replace d5 : w.cell? ⟨gn, k * 7 + 5, none⟩ = some (.int .i64 (ei : Int)) := d5
  have Ex := hide (fun w' h => exprUses_any (la := la) (lc := lc) (l := l) (lo := lo) (b := b) (ρ := ρ) (M := M) (vn := vn) (vx := vx) (vt := vt) (line := line) rep w' h hlp)
  have hra := rasks_len l pe
  generalize rasks l pe = ua at *
  have eo : (n.over == []) = true := by rw [hov]; rfl
  have en : (n.name == []) = false := by rw [beq_eq_false_iff_ne]; exact hnm
  have kd1 : (n.kind == [118, 97, 114]) = false := by rw [beq_eq_false_iff_ne]; exact hkd.1
  have kd2 : (n.kind == [99, 104, 97, 110]) = false := by rw [beq_eq_false_iff_ne]; exact hkd.2
  have Mn := hide (Me.out n.name false)
  generalize rmeans l n.name false = zn at *
  have hb2 : (ua).length + 1 ≤ 1000000 := by (simp at hlen ⊢) <;> omega
  clear hkd hov hnm hex Me
  have KK := hide K
  clear K
  generalize hml : M.length = m at *
  clear hml
  go_enter Tryz.func72, Tryz.ntmps72
  go_wp2_with (first | (go_at_call 132; refine (Ex.out _ (Sd.out.below (below_alloc _ _))).mono ?_; rintro e w1 ⟨v1, rfl, u1⟩; have q1 := Below.at u1.bel (at_new w _) (by simp); have x10 := cell_at q1 0; have x13 := cell_at q1 3; have x14 := cell_at q1 4; have x16 := cell_at q1 6; have U1 := hide u1; clear u1 q1 Ex) | (go_at_call 70; refine (Mn.out _ (Sd.out.below (below_trans (below_alloc w _) U1.out.bel (by simp))).dl).mono ?_; rintro e wx ⟨rfl, nd2, rfl⟩; clear Mn) | (at_builtin; refine wpList_appendM (by decide) Tryz.underlying149 useInfo rfl (by decide) rfl _ _ rfl v1 (ua).length (usesV (ua)) rfl (by exact (ownsRow_frame U1.out.own (fun _ _ => rfl)).alloc _) ⟨w1.heap.size, 0, none⟩ 1 1 (useV (zn, 1)) rfl rfl (by exact new_row _ _ rfl _ _) (useV_one _) hb2 ?_; intro v2 w2 o2 g2 b2; have u2 := U1.out.more (u2 := [(zn, 1)]) (below_trans (below_drewN (Below.refl _ _) nd2) (below_alloc _ _) (Nat.le_refl _)) (by simpa [usesV] using o2) g2 b2; have q2 := Below.at u2.bel (at_new w _) (by simp); have x20 := cell_at q2 0; have x23 := cell_at q2 3; have x26 := cell_at q2 6; have U2 := hide u2; clear o2 g2 b2 u2 q2 hb2))
  go_loopw [8, 10] (fun out i wr => ∃ j : Nat, j ≤ n.kids.length ∧ i = .int .i64 j ∧ UseAt (w.alloc (.cells #[.string ⟨n.kind.toArray⟩, .int .i64 n.line, .int .i64 n.inn, .string ⟨n.name.toArray⟩, .string ⟨n.over.toArray⟩, .int .i64 (ei : Int), .slice ka n.kids.length kc] 145)) wr out (((ua ++ [(zn, 1)])) ++ flatR R (n.kids.take j))) (fun _ i _ => n.kids.length - (intOf i).toNat)
  case atStart => exact ⟨0, Nat.zero_le _, rfl, by simpa [flatR] using U2.out⟩
  case round =>
    obtain ⟨j, hj, rfl, hu⟩ := hrel
    have hQ := Below.at hu.bel (at_new w _) (by simp)
    have y6 : wr.cell? ⟨w.heap.size, 6, none⟩ = some (.slice ka n.kids.length kc) := cell_at hQ 6
    have hbb := below_trans (below_alloc w _) hu.bel (by simp)
    have hle := flatR_le R n.kids j
    have hle2 := flatR_le R n.kids (j + 1)
    have Hu := hide hu
    by_cases hl2 : j < n.kids.length
    · have hrow := row_below hbb Kd.out
      obtain ⟨g, cap, hsh⟩ := shape_pos hrow (by omega)
      simp only [Value.slice.injEq, true_and] at hsh
      obtain ⟨rfl, rfl⟩ := hsh
      have kc5 := pile_top hrow (List.getElem?_eq_getElem hl2)
      have C := hide (KK.out n.kids[j] (List.getElem_mem hl2) wr (.slice la l.length lc) (Sd.out.below (below_trans (below_alloc w _) hu.bel (by simp))))
      have hft := flatR_take R n.kids j hl2
      rw [hft, List.length_append] at hle2
      have Ht := hide hft
      have hb9 : (((ua ++ [(zn, 1)])) ++ flatR R (n.kids.take j)).length + (R n.kids[j]).length ≤ 1000000 := by rw [List.length_append]; omega
      have Hb9 := hide hb9
      clear hb9
      clear hrow hft hu hQ hbb
      generalize R n.kids[j] = rk at *
      generalize n.kids[j] = kid at *
      go_wp2_with (first | (go_at_call 72; refine C.out.mono ?_; rintro e w7 ⟨v7, rfl, u7⟩; have U7 := hide u7; clear u7) | (at_builtin; refine wpList_appendV (by decide) Tryz.underlying149 useInfo rfl (by decide) rfl _ _ rfl u8 (((ua ++ [(zn, 1)])) ++ flatR R (n.kids.take j)).length (usesV (((ua ++ [(zn, 1)])) ++ flatR R (n.kids.take j))) rfl (row_below U7.out.bel Hu.out.own) v7 rk.length (usesV rk) rfl U7.out.own (usesV_one _) Hb9.out ?_; intro v8 w8 o8 g8 b8; have um := Hu.out.more U7.out.bel o8 g8 b8; have U8 := hide um; have G8 := hide g8; clear o8 g8 b8 um))
      go_roundw
      case rel =>
        refine ⟨j + 1, by omega, by go_num, ?_⟩
        · rw [Ht.out, ← List.append_assoc]; exact U8.out
      case measure => simp [intOf]; omega
    · have hje : n.kids.take j = n.kids := List.take_of_length_le (by omega)
      rw [hje] at Hu
      clear hu hQ hbb
      go_wp2_with fail
      go_ret
      exact ⟨_, rfl, Hu.out.end⟩

set_option maxRecDepth 20000 in
set_option maxHeartbeats 8000000 in
theorem us_d0 {lo b : Nat} {ρ : Nat → Ro} {M : List (RNd × Value)} {s : XR} {vn vx vt : Value} {line : Int} {l : List RDc} {la : Option Addr} {lc : Nat} (w : World) (see : See w lo b ρ M s vn vx vt line l (.slice la l.length lc)) {k : Nat} {n : RNd} {kv : Value} (hk : M[k]? = some (n, kv)) (_hm : M.length ≤ 2000) (_hkl : n.kids.length ≤ 2000) (hex : n.ex = none) (hov : n.over ≠ []) (hkw : n.kind = [33]) (hnm : n.name = []) (hkd : n.kind ≠ wVar ∧ n.kind ≠ wChan) (R : Nat → List (Int × Nat)) (hlen : (([] : List (Int × Nat)) ++ [(rmeans l n.over true, 4)]).length + (flatR R n.kids).length ≤ 900000) (K : ∀ kid ∈ n.kids, ∀ (w' : World) (lv : Value), See w' lo b ρ M s vn vx vt line l lv → Calls Tryz.prog 72 #[.pointer (some ⟨b, 0, none⟩), lv, .int .i64 kid] w' fun e w'' => ∃ v, e = .returned v ∧ UseAt w' w'' v (R kid)) :
    Calls Tryz.prog 72 #[.pointer (some ⟨b, 0, none⟩), .slice la l.length lc, .int .i64 k] w fun e w' => ∃ v, e = .returned v ∧ UseAt w w' v ((([] : List (Int × Nat)) ++ [(rmeans l n.over true, 4)]) ++ flatR R n.kids) := by
  have c0 := see.tx.rd.c0
  obtain ⟨gn, capn, hvn, h1, h2, hc⟩ := node_at see.tx.nodes hk
  obtain ⟨ka, kc, hkv⟩ := ownsRow_len (see.tx.kids k n kv hk)
  have hlt : k < M.length := (List.getElem?_eq_some_iff.1 hk).1
  have Kd := hide (see.tx.kids k n kv hk)
  have d0 := hc 0 _ rfl; rw [Nat.add_zero] at d0; have d1 := hc 1 _ rfl; have d2 := hc 2 _ rfl; have d3 := hc 3 _ rfl; have d4 := hc 4 _ rfl; have d5 := hc 5 _ rfl; have d6 := hc 6 _ rfl
  rw [hvn] at c0
  subst hkv
  have Sd := hide see; have Hk := hide hk
  have Me := hide (fun t ch w h => rmeans_any l (.slice la l.length lc) t ch w h see.few)
  clear see hc hk hvn
  rw [hex] at d5
  replace d5 : w.cell? ⟨gn, k * 7 + 5, none⟩ = some (.int .i64 (-1)) := d5
  have eo : (n.over == []) = false := by rw [beq_eq_false_iff_ne]; exact hov
  have en : (n.name == []) = true := by rw [hnm]; rfl
  have kd1 : (n.kind == [118, 97, 114]) = false := by rw [beq_eq_false_iff_ne]; exact hkd.1
  have kd2 : (n.kind == [99, 104, 97, 110]) = false := by rw [beq_eq_false_iff_ne]; exact hkd.2
  have kw : (n.kind == [33]) = true := by rw [beq_iff_eq]; exact hkw
  clear hkw
  have Mo := hide (Me.out n.over true)
  generalize rmeans l n.over true = zo at *
  have hb2 : (([] : List (Int × Nat))).length + 1 ≤ 1000000 := by (simp at hlen ⊢) <;> omega
  clear hkd hov hnm hex Me
  have KK := hide K
  clear K
  generalize hml : M.length = m at *
  clear hml
  go_enter Tryz.func72, Tryz.ntmps72
  go_wp2_with (first | (go_at_call 70; refine (Mo.out _ (Sd.out.below (below_trans (below_alloc w _) (UseAt.nil (w.alloc (.cells #[.string ⟨n.kind.toArray⟩, .int .i64 n.line, .int .i64 n.inn, .string ⟨n.name.toArray⟩, .string ⟨n.over.toArray⟩, .int .i64 (-1), .slice ka n.kids.length kc] 145))).bel (by simp))).dl).mono ?_; rintro e wx ⟨rfl, nd2, rfl⟩; clear Mo) | (at_builtin; refine wpList_appendM (by decide) Tryz.underlying149 useInfo rfl (by decide) rfl _ _ rfl (.slice none 0 0) (([] : List (Int × Nat))).length (usesV (([] : List (Int × Nat)))) rfl (by exact (ownsRow_frame (UseAt.nil (w.alloc (.cells #[.string ⟨n.kind.toArray⟩, .int .i64 n.line, .int .i64 n.inn, .string ⟨n.name.toArray⟩, .string ⟨n.over.toArray⟩, .int .i64 (-1), .slice ka n.kids.length kc] 145))).own (fun _ _ => rfl)).alloc _) ⟨w.heap.size + 1, 0, none⟩ 1 1 (useV (zo, 4)) rfl rfl (by exact new_row _ _ (by simp) _ _) (useV_one _) hb2 ?_; intro v2 w2 o2 g2 b2; have u2 := (UseAt.nil (w.alloc (.cells #[.string ⟨n.kind.toArray⟩, .int .i64 n.line, .int .i64 n.inn, .string ⟨n.name.toArray⟩, .string ⟨n.over.toArray⟩, .int .i64 (-1), .slice ka n.kids.length kc] 145))).more (u2 := [(zo, 4)]) (below_trans (below_drewN (Below.refl _ _) nd2) (below_alloc _ _) (Nat.le_refl _)) (by simpa [usesV] using o2) g2 b2; have q2 := Below.at u2.bel (at_new w _) (by simp); have x20 := cell_at q2 0; have x23 := cell_at q2 3; have x26 := cell_at q2 6; have U2 := hide u2; clear o2 g2 b2 u2 q2 hb2))
  go_loopw [8, 10] (fun out i wr => ∃ j : Nat, j ≤ n.kids.length ∧ i = .int .i64 j ∧ UseAt (w.alloc (.cells #[.string ⟨n.kind.toArray⟩, .int .i64 n.line, .int .i64 n.inn, .string ⟨n.name.toArray⟩, .string ⟨n.over.toArray⟩, .int .i64 (-1), .slice ka n.kids.length kc] 145)) wr out (((([] : List (Int × Nat)) ++ [(zo, 4)])) ++ flatR R (n.kids.take j))) (fun _ i _ => n.kids.length - (intOf i).toNat)
  case atStart => exact ⟨0, Nat.zero_le _, rfl, by simpa [flatR] using U2.out⟩
  case round =>
    obtain ⟨j, hj, rfl, hu⟩ := hrel
    have hQ := Below.at hu.bel (at_new w _) (by simp)
    have y6 : wr.cell? ⟨w.heap.size, 6, none⟩ = some (.slice ka n.kids.length kc) := cell_at hQ 6
    have hbb := below_trans (below_alloc w _) hu.bel (by simp)
    have hle := flatR_le R n.kids j
    have hle2 := flatR_le R n.kids (j + 1)
    have Hu := hide hu
    by_cases hl2 : j < n.kids.length
    · have hrow := row_below hbb Kd.out
      obtain ⟨g, cap, hsh⟩ := shape_pos hrow (by omega)
      simp only [Value.slice.injEq, true_and] at hsh
      obtain ⟨rfl, rfl⟩ := hsh
      have kc5 := pile_top hrow (List.getElem?_eq_getElem hl2)
      have C := hide (KK.out n.kids[j] (List.getElem_mem hl2) wr (.slice la l.length lc) (Sd.out.below (below_trans (below_alloc w _) hu.bel (by simp))))
      have hft := flatR_take R n.kids j hl2
      rw [hft, List.length_append] at hle2
      have Ht := hide hft
      have hb9 : (((([] : List (Int × Nat)) ++ [(zo, 4)])) ++ flatR R (n.kids.take j)).length + (R n.kids[j]).length ≤ 1000000 := by rw [List.length_append]; omega
      have Hb9 := hide hb9
      clear hb9
      clear hrow hft hu hQ hbb
      generalize R n.kids[j] = rk at *
      generalize n.kids[j] = kid at *
      go_wp2_with (first | (go_at_call 72; refine C.out.mono ?_; rintro e w7 ⟨v7, rfl, u7⟩; have U7 := hide u7; clear u7) | (at_builtin; refine wpList_appendV (by decide) Tryz.underlying149 useInfo rfl (by decide) rfl _ _ rfl u8 (((([] : List (Int × Nat)) ++ [(zo, 4)])) ++ flatR R (n.kids.take j)).length (usesV (((([] : List (Int × Nat)) ++ [(zo, 4)])) ++ flatR R (n.kids.take j))) rfl (row_below U7.out.bel Hu.out.own) v7 rk.length (usesV rk) rfl U7.out.own (usesV_one _) Hb9.out ?_; intro v8 w8 o8 g8 b8; have um := Hu.out.more U7.out.bel o8 g8 b8; have U8 := hide um; have G8 := hide g8; clear o8 g8 b8 um))
      go_roundw
      case rel =>
        refine ⟨j + 1, by omega, by go_num, ?_⟩
        · rw [Ht.out, ← List.append_assoc]; exact U8.out
      case measure => simp [intOf]; omega
    · have hje : n.kids.take j = n.kids := List.take_of_length_le (by omega)
      rw [hje] at Hu
      clear hu hQ hbb
      go_wp2_with fail
      go_ret
      exact ⟨_, rfl, Hu.out.end⟩

set_option maxRecDepth 20000 in
set_option maxHeartbeats 8000000 in
theorem us_d1 {lo b : Nat} {ρ : Nat → Ro} {M : List (RNd × Value)} {s : XR} {vn vx vt : Value} {line : Int} {l : List RDc} {la : Option Addr} {lc : Nat} (w : World) (see : See w lo b ρ M s vn vx vt line l (.slice la l.length lc)) {k : Nat} {n : RNd} {kv : Value} (hk : M[k]? = some (n, kv)) (_hm : M.length ≤ 2000) (_hkl : n.kids.length ≤ 2000) {pe : PE} {ei : Nat} (hex : n.ex = some ei) (rep : RepX s.xs ei pe) (hlp : leavesP pe ≤ 100000) (hov : n.over ≠ []) (hkw : n.kind = [33]) (hnm : n.name = []) (hkd : n.kind ≠ wVar ∧ n.kind ≠ wChan) (R : Nat → List (Int × Nat)) (hlen : (rasks l pe ++ [(rmeans l n.over true, 4)]).length + (flatR R n.kids).length ≤ 900000) (K : ∀ kid ∈ n.kids, ∀ (w' : World) (lv : Value), See w' lo b ρ M s vn vx vt line l lv → Calls Tryz.prog 72 #[.pointer (some ⟨b, 0, none⟩), lv, .int .i64 kid] w' fun e w'' => ∃ v, e = .returned v ∧ UseAt w' w'' v (R kid)) :
    Calls Tryz.prog 72 #[.pointer (some ⟨b, 0, none⟩), .slice la l.length lc, .int .i64 k] w fun e w' => ∃ v, e = .returned v ∧ UseAt w w' v ((rasks l pe ++ [(rmeans l n.over true, 4)]) ++ flatR R n.kids) := by
  have c0 := see.tx.rd.c0
  obtain ⟨gn, capn, hvn, h1, h2, hc⟩ := node_at see.tx.nodes hk
  obtain ⟨ka, kc, hkv⟩ := ownsRow_len (see.tx.kids k n kv hk)
  have hlt : k < M.length := (List.getElem?_eq_some_iff.1 hk).1
  have Kd := hide (see.tx.kids k n kv hk)
  have d0 := hc 0 _ rfl; rw [Nat.add_zero] at d0; have d1 := hc 1 _ rfl; have d2 := hc 2 _ rfl; have d3 := hc 3 _ rfl; have d4 := hc 4 _ rfl; have d5 := hc 5 _ rfl; have d6 := hc 6 _ rfl
  rw [hvn] at c0
  subst hkv
  have Sd := hide see; have Hk := hide hk
  have Me := hide (fun t ch w h => rmeans_any l (.slice la l.length lc) t ch w h see.few)
  clear see hc hk hvn
  rw [hex] at d5
  replace d5 : w.cell? ⟨gn, k * 7 + 5, none⟩ = some (.int .i64 (ei : Int)) := d5
  have Ex := hide (fun w' h => exprUses_any (la := la) (lc := lc) (l := l) (lo := lo) (b := b) (ρ := ρ) (M := M) (vn := vn) (vx := vx) (vt := vt) (line := line) rep w' h hlp)
  have hra := rasks_len l pe
  generalize rasks l pe = ua at *
  have eo : (n.over == []) = false := by rw [beq_eq_false_iff_ne]; exact hov
  have en : (n.name == []) = true := by rw [hnm]; rfl
  have kd1 : (n.kind == [118, 97, 114]) = false := by rw [beq_eq_false_iff_ne]; exact hkd.1
  have kd2 : (n.kind == [99, 104, 97, 110]) = false := by rw [beq_eq_false_iff_ne]; exact hkd.2
  have kw : (n.kind == [33]) = true := by rw [beq_iff_eq]; exact hkw
  clear hkw
  have Mo := hide (Me.out n.over true)
  generalize rmeans l n.over true = zo at *
  have hb2 : (ua).length + 1 ≤ 1000000 := by (simp at hlen ⊢) <;> omega
  clear hkd hov hnm hex Me
  have KK := hide K
  clear K
  generalize hml : M.length = m at *
  clear hml
  go_enter Tryz.func72, Tryz.ntmps72
  go_wp2_with (first | (go_at_call 132; refine (Ex.out _ (Sd.out.below (below_alloc _ _))).mono ?_; rintro e w1 ⟨v1, rfl, u1⟩; have q1 := Below.at u1.bel (at_new w _) (by simp); have x10 := cell_at q1 0; have x13 := cell_at q1 3; have x14 := cell_at q1 4; have x16 := cell_at q1 6; have U1 := hide u1; clear u1 q1 Ex) | (go_at_call 70; refine (Mo.out _ (Sd.out.below (below_trans (below_alloc w _) U1.out.bel (by simp))).dl).mono ?_; rintro e wx ⟨rfl, nd2, rfl⟩; clear Mo) | (at_builtin; refine wpList_appendM (by decide) Tryz.underlying149 useInfo rfl (by decide) rfl _ _ rfl v1 (ua).length (usesV (ua)) rfl (by exact (ownsRow_frame U1.out.own (fun _ _ => rfl)).alloc _) ⟨w1.heap.size, 0, none⟩ 1 1 (useV (zo, 4)) rfl rfl (by exact new_row _ _ rfl _ _) (useV_one _) hb2 ?_; intro v2 w2 o2 g2 b2; have u2 := U1.out.more (u2 := [(zo, 4)]) (below_trans (below_drewN (Below.refl _ _) nd2) (below_alloc _ _) (Nat.le_refl _)) (by simpa [usesV] using o2) g2 b2; have q2 := Below.at u2.bel (at_new w _) (by simp); have x20 := cell_at q2 0; have x23 := cell_at q2 3; have x26 := cell_at q2 6; have U2 := hide u2; clear o2 g2 b2 u2 q2 hb2))
  go_loopw [8, 10] (fun out i wr => ∃ j : Nat, j ≤ n.kids.length ∧ i = .int .i64 j ∧ UseAt (w.alloc (.cells #[.string ⟨n.kind.toArray⟩, .int .i64 n.line, .int .i64 n.inn, .string ⟨n.name.toArray⟩, .string ⟨n.over.toArray⟩, .int .i64 (ei : Int), .slice ka n.kids.length kc] 145)) wr out (((ua ++ [(zo, 4)])) ++ flatR R (n.kids.take j))) (fun _ i _ => n.kids.length - (intOf i).toNat)
  case atStart => exact ⟨0, Nat.zero_le _, rfl, by simpa [flatR] using U2.out⟩
  case round =>
    obtain ⟨j, hj, rfl, hu⟩ := hrel
    have hQ := Below.at hu.bel (at_new w _) (by simp)
    have y6 : wr.cell? ⟨w.heap.size, 6, none⟩ = some (.slice ka n.kids.length kc) := cell_at hQ 6
    have hbb := below_trans (below_alloc w _) hu.bel (by simp)
    have hle := flatR_le R n.kids j
    have hle2 := flatR_le R n.kids (j + 1)
    have Hu := hide hu
    by_cases hl2 : j < n.kids.length
    · have hrow := row_below hbb Kd.out
      obtain ⟨g, cap, hsh⟩ := shape_pos hrow (by omega)
      simp only [Value.slice.injEq, true_and] at hsh
      obtain ⟨rfl, rfl⟩ := hsh
      have kc5 := pile_top hrow (List.getElem?_eq_getElem hl2)
      have C := hide (KK.out n.kids[j] (List.getElem_mem hl2) wr (.slice la l.length lc) (Sd.out.below (below_trans (below_alloc w _) hu.bel (by simp))))
      have hft := flatR_take R n.kids j hl2
      rw [hft, List.length_append] at hle2
      have Ht := hide hft
      have hb9 : (((ua ++ [(zo, 4)])) ++ flatR R (n.kids.take j)).length + (R n.kids[j]).length ≤ 1000000 := by rw [List.length_append]; omega
      have Hb9 := hide hb9
      clear hb9
      clear hrow hft hu hQ hbb
      generalize R n.kids[j] = rk at *
      generalize n.kids[j] = kid at *
      go_wp2_with (first | (go_at_call 72; refine C.out.mono ?_; rintro e w7 ⟨v7, rfl, u7⟩; have U7 := hide u7; clear u7) | (at_builtin; refine wpList_appendV (by decide) Tryz.underlying149 useInfo rfl (by decide) rfl _ _ rfl u8 (((ua ++ [(zo, 4)])) ++ flatR R (n.kids.take j)).length (usesV (((ua ++ [(zo, 4)])) ++ flatR R (n.kids.take j))) rfl (row_below U7.out.bel Hu.out.own) v7 rk.length (usesV rk) rfl U7.out.own (usesV_one _) Hb9.out ?_; intro v8 w8 o8 g8 b8; have um := Hu.out.more U7.out.bel o8 g8 b8; have U8 := hide um; have G8 := hide g8; clear o8 g8 b8 um))
      go_roundw
      case rel =>
        refine ⟨j + 1, by omega, by go_num, ?_⟩
        · rw [Ht.out, ← List.append_assoc]; exact U8.out
      case measure => simp [intOf]; omega
    · have hje : n.kids.take j = n.kids := List.take_of_length_le (by omega)
      rw [hje] at Hu
      clear hu hQ hbb
      go_wp2_with fail
      go_ret
      exact ⟨_, rfl, Hu.out.end⟩

set_option maxRecDepth 20000 in
set_option maxHeartbeats 8000000 in
theorem us_e0 {lo b : Nat} {ρ : Nat → Ro} {M : List (RNd × Value)} {s : XR} {vn vx vt : Value} {line : Int} {l : List RDc} {la : Option Addr} {lc : Nat} (w : World) (see : See w lo b ρ M s vn vx vt line l (.slice la l.length lc)) {k : Nat} {n : RNd} {kv : Value} (hk : M[k]? = some (n, kv)) (_hm : M.length ≤ 2000) (_hkl : n.kids.length ≤ 2000) (hex : n.ex = none) (hov : n.over ≠ []) (hkw : n.kind ≠ [33]) (hnm : n.name ≠ []) (hkd : n.kind ≠ wVar ∧ n.kind ≠ wChan) (R : Nat → List (Int × Nat)) (hlen : (([] : List (Int × Nat)) ++ [(rmeans l n.over true, 8)] ++ [(rmeans l n.name false, 1)]).length + (flatR R n.kids).length ≤ 900000) (K : ∀ kid ∈ n.kids, ∀ (w' : World) (lv : Value), See w' lo b ρ M s vn vx vt line l lv → Calls Tryz.prog 72 #[.pointer (some ⟨b, 0, none⟩), lv, .int .i64 kid] w' fun e w'' => ∃ v, e = .returned v ∧ UseAt w' w'' v (R kid)) :
    Calls Tryz.prog 72 #[.pointer (some ⟨b, 0, none⟩), .slice la l.length lc, .int .i64 k] w fun e w' => ∃ v, e = .returned v ∧ UseAt w w' v ((([] : List (Int × Nat)) ++ [(rmeans l n.over true, 8)] ++ [(rmeans l n.name false, 1)]) ++ flatR R n.kids) := by
  have c0 := see.tx.rd.c0
  obtain ⟨gn, capn, hvn, h1, h2, hc⟩ := node_at see.tx.nodes hk
  obtain ⟨ka, kc, hkv⟩ := ownsRow_len (see.tx.kids k n kv hk)
  have hlt : k < M.length := (List.getElem?_eq_some_iff.1 hk).1
  have Kd := hide (see.tx.kids k n kv hk)
  have d0 := hc 0 _ rfl; rw [Nat.add_zero] at d0; have d1 := hc 1 _ rfl; have d2 := hc 2 _ rfl; have d3 := hc 3 _ rfl; have d4 := hc 4 _ rfl; have d5 := hc 5 _ rfl; have d6 := hc 6 _ rfl
  rw [hvn] at c0
  subst hkv
  have Sd := hide see; have Hk := hide hk
  have Me := hide (fun t ch w h => rmeans_any l (.slice la l.length lc) t ch w h see.few)
  clear see hc hk hvn
  rw [hex] at d5
  replace d5 : w.cell? ⟨gn, k * 7 + 5, none⟩ = some (.int .i64 (-1)) := d5
  have eo : (n.over == []) = false := by rw [beq_eq_false_iff_ne]; exact hov
  have en : (n.name == []) = false := by rw [beq_eq_false_iff_ne]; exact hnm
  have kd1 : (n.kind == [118, 97, 114]) = false := by rw [beq_eq_false_iff_ne]; exact hkd.1
  have kd2 : (n.kind == [99, 104, 97, 110]) = false := by rw [beq_eq_false_iff_ne]; exact hkd.2
  have kw : (n.kind == [33]) = false := by rw [beq_eq_false_iff_ne]; exact hkw
  clear hkw
  have Mo := hide (Me.out n.over true)
  generalize rmeans l n.over true = zo at *
  have hb2 : (([] : List (Int × Nat))).length + 1 ≤ 1000000 := by (simp at hlen ⊢) <;> omega
  have Mn := hide (Me.out n.name false)
  generalize rmeans l n.name false = zn at *
  have hb3 : ((([] : List (Int × Nat)) ++ [(zo, 8)])).length + 1 ≤ 1000000 := by (simp at hlen ⊢) <;> omega
  clear hkd hov hnm hex Me
  have KK := hide K
  clear K
  generalize hml : M.length = m at *
  clear hml
  go_enter Tryz.func72, Tryz.ntmps72
  go_wp2_with (first | (go_at_call 70; refine (Mo.out _ (Sd.out.below (below_trans (below_alloc w _) (UseAt.nil (w.alloc (.cells #[.string ⟨n.kind.toArray⟩, .int .i64 n.line, .int .i64 n.inn, .string ⟨n.name.toArray⟩, .string ⟨n.over.toArray⟩, .int .i64 (-1), .slice ka n.kids.length kc] 145))).bel (by simp))).dl).mono ?_; rintro e wx ⟨rfl, nd2, rfl⟩; clear Mo) | (at_builtin; refine wpList_appendM (by decide) Tryz.underlying149 useInfo rfl (by decide) rfl _ _ rfl (.slice none 0 0) (([] : List (Int × Nat))).length (usesV (([] : List (Int × Nat)))) rfl (by exact (ownsRow_frame (UseAt.nil (w.alloc (.cells #[.string ⟨n.kind.toArray⟩, .int .i64 n.line, .int .i64 n.inn, .string ⟨n.name.toArray⟩, .string ⟨n.over.toArray⟩, .int .i64 (-1), .slice ka n.kids.length kc] 145))).own (fun _ _ => rfl)).alloc _) ⟨w.heap.size + 1, 0, none⟩ 1 1 (useV (zo, 8)) rfl rfl (by exact new_row _ _ (by simp) _ _) (useV_one _) hb2 ?_; intro v2 w2 o2 g2 b2; have u2 := (UseAt.nil (w.alloc (.cells #[.string ⟨n.kind.toArray⟩, .int .i64 n.line, .int .i64 n.inn, .string ⟨n.name.toArray⟩, .string ⟨n.over.toArray⟩, .int .i64 (-1), .slice ka n.kids.length kc] 145))).more (u2 := [(zo, 8)]) (below_trans (below_drewN (Below.refl _ _) nd2) (below_alloc _ _) (Nat.le_refl _)) (by simpa [usesV] using o2) g2 b2; have q2 := Below.at u2.bel (at_new w _) (by simp); have x20 := cell_at q2 0; have x23 := cell_at q2 3; have x26 := cell_at q2 6; have U2 := hide u2; clear o2 g2 b2 u2 q2 hb2) | (go_at_call 70; refine (Mn.out _ (Sd.out.below (below_trans (below_alloc w _) U2.out.bel (by simp))).dl).mono ?_; rintro e wx ⟨rfl, nd3, rfl⟩; clear Mn) | (at_builtin; refine wpList_appendM (by decide) Tryz.underlying149 useInfo rfl (by decide) rfl _ _ rfl v2 ((([] : List (Int × Nat)) ++ [(zo, 8)])).length (usesV ((([] : List (Int × Nat)) ++ [(zo, 8)]))) rfl (by exact (ownsRow_frame U2.out.own (fun _ _ => rfl)).alloc _) ⟨w2.heap.size, 0, none⟩ 1 1 (useV (zn, 1)) rfl rfl (by exact new_row _ _ rfl _ _) (useV_one _) hb3 ?_; intro v3 w3 o3 g3 b3; have u3 := U2.out.more (u2 := [(zn, 1)]) (below_trans (below_drewN (Below.refl _ _) nd3) (below_alloc _ _) (Nat.le_refl _)) (by simpa [usesV] using o3) g3 b3; have q3 := Below.at u3.bel (at_new w _) (by simp); have x30 := cell_at q3 0; have x33 := cell_at q3 3; have x36 := cell_at q3 6; have U3 := hide u3; clear o3 g3 b3 u3 q3 hb3))
  go_loopw [8, 10] (fun out i wr => ∃ j : Nat, j ≤ n.kids.length ∧ i = .int .i64 j ∧ UseAt (w.alloc (.cells #[.string ⟨n.kind.toArray⟩, .int .i64 n.line, .int .i64 n.inn, .string ⟨n.name.toArray⟩, .string ⟨n.over.toArray⟩, .int .i64 (-1), .slice ka n.kids.length kc] 145)) wr out ((((([] : List (Int × Nat)) ++ [(zo, 8)]) ++ [(zn, 1)])) ++ flatR R (n.kids.take j))) (fun _ i _ => n.kids.length - (intOf i).toNat)
  case atStart => exact ⟨0, Nat.zero_le _, rfl, by simpa [flatR] using U3.out⟩
  case round =>
    obtain ⟨j, hj, rfl, hu⟩ := hrel
    have hQ := Below.at hu.bel (at_new w _) (by simp)
    have y6 : wr.cell? ⟨w.heap.size, 6, none⟩ = some (.slice ka n.kids.length kc) := cell_at hQ 6
    have hbb := below_trans (below_alloc w _) hu.bel (by simp)
    have hle := flatR_le R n.kids j
    have hle2 := flatR_le R n.kids (j + 1)
    have Hu := hide hu
    by_cases hl2 : j < n.kids.length
    · have hrow := row_below hbb Kd.out
      obtain ⟨g, cap, hsh⟩ := shape_pos hrow (by omega)
      simp only [Value.slice.injEq, true_and] at hsh
      obtain ⟨rfl, rfl⟩ := hsh
      have kc5 := pile_top hrow (List.getElem?_eq_getElem hl2)
      have C := hide (KK.out n.kids[j] (List.getElem_mem hl2) wr (.slice la l.length lc) (Sd.out.below (below_trans (below_alloc w _) hu.bel (by simp))))
      have hft := flatR_take R n.kids j hl2
      rw [hft, List.length_append] at hle2
      have Ht := hide hft
      have hb9 : ((((([] : List (Int × Nat)) ++ [(zo, 8)]) ++ [(zn, 1)])) ++ flatR R (n.kids.take j)).length + (R n.kids[j]).length ≤ 1000000 := by rw [List.length_append]; omega
      have Hb9 := hide hb9
      clear hb9
      clear hrow hft hu hQ hbb
      generalize R n.kids[j] = rk at *
      generalize n.kids[j] = kid at *
      go_wp2_with (first | (go_at_call 72; refine C.out.mono ?_; rintro e w7 ⟨v7, rfl, u7⟩; have U7 := hide u7; clear u7) | (at_builtin; refine wpList_appendV (by decide) Tryz.underlying149 useInfo rfl (by decide) rfl _ _ rfl u8 ((((([] : List (Int × Nat)) ++ [(zo, 8)]) ++ [(zn, 1)])) ++ flatR R (n.kids.take j)).length (usesV ((((([] : List (Int × Nat)) ++ [(zo, 8)]) ++ [(zn, 1)])) ++ flatR R (n.kids.take j))) rfl (row_below U7.out.bel Hu.out.own) v7 rk.length (usesV rk) rfl U7.out.own (usesV_one _) Hb9.out ?_; intro v8 w8 o8 g8 b8; have um := Hu.out.more U7.out.bel o8 g8 b8; have U8 := hide um; have G8 := hide g8; clear o8 g8 b8 um))
      go_roundw
      case rel =>
        refine ⟨j + 1, by omega, by go_num, ?_⟩
        · rw [Ht.out, ← List.append_assoc]; exact U8.out
      case measure => simp [intOf]; omega
    · have hje : n.kids.take j = n.kids := List.take_of_length_le (by omega)
      rw [hje] at Hu
      clear hu hQ hbb
      go_wp2_with fail
      go_ret
      exact ⟨_, rfl, Hu.out.end⟩

set_option maxRecDepth 20000 in
set_option maxHeartbeats 8000000 in
theorem us_e1 {lo b : Nat} {ρ : Nat → Ro} {M : List (RNd × Value)} {s : XR} {vn vx vt : Value} {line : Int} {l : List RDc} {la : Option Addr} {lc : Nat} (w : World) (see : See w lo b ρ M s vn vx vt line l (.slice la l.length lc)) {k : Nat} {n : RNd} {kv : Value} (hk : M[k]? = some (n, kv)) (_hm : M.length ≤ 2000) (_hkl : n.kids.length ≤ 2000) {pe : PE} {ei : Nat} (hex : n.ex = some ei) (rep : RepX s.xs ei pe) (hlp : leavesP pe ≤ 100000) (hov : n.over ≠ []) (hkw : n.kind ≠ [33]) (hnm : n.name ≠ []) (hkd : n.kind ≠ wVar ∧ n.kind ≠ wChan) (R : Nat → List (Int × Nat)) (hlen : (rasks l pe ++ [(rmeans l n.over true, 8)] ++ [(rmeans l n.name false, 1)]).length + (flatR R n.kids).length ≤ 900000) (K : ∀ kid ∈ n.kids, ∀ (w' : World) (lv : Value), See w' lo b ρ M s vn vx vt line l lv → Calls Tryz.prog 72 #[.pointer (some ⟨b, 0, none⟩), lv, .int .i64 kid] w' fun e w'' => ∃ v, e = .returned v ∧ UseAt w' w'' v (R kid)) :
    Calls Tryz.prog 72 #[.pointer (some ⟨b, 0, none⟩), .slice la l.length lc, .int .i64 k] w fun e w' => ∃ v, e = .returned v ∧ UseAt w w' v ((rasks l pe ++ [(rmeans l n.over true, 8)] ++ [(rmeans l n.name false, 1)]) ++ flatR R n.kids) := by
  have c0 := see.tx.rd.c0
  obtain ⟨gn, capn, hvn, h1, h2, hc⟩ := node_at see.tx.nodes hk
  obtain ⟨ka, kc, hkv⟩ := ownsRow_len (see.tx.kids k n kv hk)
  have hlt : k < M.length := (List.getElem?_eq_some_iff.1 hk).1
  have Kd := hide (see.tx.kids k n kv hk)
  have d0 := hc 0 _ rfl; rw [Nat.add_zero] at d0; have d1 := hc 1 _ rfl; have d2 := hc 2 _ rfl; have d3 := hc 3 _ rfl; have d4 := hc 4 _ rfl; have d5 := hc 5 _ rfl; have d6 := hc 6 _ rfl
  rw [hvn] at c0
  subst hkv
  have Sd := hide see; have Hk := hide hk
  have Me := hide (fun t ch w h => rmeans_any l (.slice la l.length lc) t ch w h see.few)
  clear see hc hk hvn
  rw [hex] at d5
  replace d5 : w.cell? ⟨gn, k * 7 + 5, none⟩ = some (.int .i64 (ei : Int)) := d5
  have Ex := hide (fun w' h => exprUses_any (la := la) (lc := lc) (l := l) (lo := lo) (b := b) (ρ := ρ) (M := M) (vn := vn) (vx := vx) (vt := vt) (line := line) rep w' h hlp)
  have hra := rasks_len l pe
  generalize rasks l pe = ua at *
  have eo : (n.over == []) = false := by rw [beq_eq_false_iff_ne]; exact hov
  have en : (n.name == []) = false := by rw [beq_eq_false_iff_ne]; exact hnm
  have kd1 : (n.kind == [118, 97, 114]) = false := by rw [beq_eq_false_iff_ne]; exact hkd.1
  have kd2 : (n.kind == [99, 104, 97, 110]) = false := by rw [beq_eq_false_iff_ne]; exact hkd.2
  have kw : (n.kind == [33]) = false := by rw [beq_eq_false_iff_ne]; exact hkw
  clear hkw
  have Mo := hide (Me.out n.over true)
  generalize rmeans l n.over true = zo at *
  have hb2 : (ua).length + 1 ≤ 1000000 := by (simp at hlen ⊢) <;> omega
  have Mn := hide (Me.out n.name false)
  generalize rmeans l n.name false = zn at *
  have hb3 : ((ua ++ [(zo, 8)])).length + 1 ≤ 1000000 := by (simp at hlen ⊢) <;> omega
  clear hkd hov hnm hex Me
  have KK := hide K
  clear K
  generalize hml : M.length = m at *
  clear hml
  go_enter Tryz.func72, Tryz.ntmps72
  go_wp2_with (first | (go_at_call 132; refine (Ex.out _ (Sd.out.below (below_alloc _ _))).mono ?_; rintro e w1 ⟨v1, rfl, u1⟩; have q1 := Below.at u1.bel (at_new w _) (by simp); have x10 := cell_at q1 0; have x13 := cell_at q1 3; have x14 := cell_at q1 4; have x16 := cell_at q1 6; have U1 := hide u1; clear u1 q1 Ex) | (go_at_call 70; refine (Mo.out _ (Sd.out.below (below_trans (below_alloc w _) U1.out.bel (by simp))).dl).mono ?_; rintro e wx ⟨rfl, nd2, rfl⟩; clear Mo) | (at_builtin; refine wpList_appendM (by decide) Tryz.underlying149 useInfo rfl (by decide) rfl _ _ rfl v1 (ua).length (usesV (ua)) rfl (by exact (ownsRow_frame U1.out.own (fun _ _ => rfl)).alloc _) ⟨w1.heap.size, 0, none⟩ 1 1 (useV (zo, 8)) rfl rfl (by exact new_row _ _ rfl _ _) (useV_one _) hb2 ?_; intro v2 w2 o2 g2 b2; have u2 := U1.out.more (u2 := [(zo, 8)]) (below_trans (below_drewN (Below.refl _ _) nd2) (below_alloc _ _) (Nat.le_refl _)) (by simpa [usesV] using o2) g2 b2; have q2 := Below.at u2.bel (at_new w _) (by simp); have x20 := cell_at q2 0; have x23 := cell_at q2 3; have x26 := cell_at q2 6; have U2 := hide u2; clear o2 g2 b2 u2 q2 hb2) | (go_at_call 70; refine (Mn.out _ (Sd.out.below (below_trans (below_alloc w _) U2.out.bel (by simp))).dl).mono ?_; rintro e wx ⟨rfl, nd3, rfl⟩; clear Mn) | (at_builtin; refine wpList_appendM (by decide) Tryz.underlying149 useInfo rfl (by decide) rfl _ _ rfl v2 ((ua ++ [(zo, 8)])).length (usesV ((ua ++ [(zo, 8)]))) rfl (by exact (ownsRow_frame U2.out.own (fun _ _ => rfl)).alloc _) ⟨w2.heap.size, 0, none⟩ 1 1 (useV (zn, 1)) rfl rfl (by exact new_row _ _ rfl _ _) (useV_one _) hb3 ?_; intro v3 w3 o3 g3 b3; have u3 := U2.out.more (u2 := [(zn, 1)]) (below_trans (below_drewN (Below.refl _ _) nd3) (below_alloc _ _) (Nat.le_refl _)) (by simpa [usesV] using o3) g3 b3; have q3 := Below.at u3.bel (at_new w _) (by simp); have x30 := cell_at q3 0; have x33 := cell_at q3 3; have x36 := cell_at q3 6; have U3 := hide u3; clear o3 g3 b3 u3 q3 hb3))
  go_loopw [8, 10] (fun out i wr => ∃ j : Nat, j ≤ n.kids.length ∧ i = .int .i64 j ∧ UseAt (w.alloc (.cells #[.string ⟨n.kind.toArray⟩, .int .i64 n.line, .int .i64 n.inn, .string ⟨n.name.toArray⟩, .string ⟨n.over.toArray⟩, .int .i64 (ei : Int), .slice ka n.kids.length kc] 145)) wr out ((((ua ++ [(zo, 8)]) ++ [(zn, 1)])) ++ flatR R (n.kids.take j))) (fun _ i _ => n.kids.length - (intOf i).toNat)
  case atStart => exact ⟨0, Nat.zero_le _, rfl, by simpa [flatR] using U3.out⟩
  case round =>
    obtain ⟨j, hj, rfl, hu⟩ := hrel
    have hQ := Below.at hu.bel (at_new w _) (by simp)
    have y6 : wr.cell? ⟨w.heap.size, 6, none⟩ = some (.slice ka n.kids.length kc) := cell_at hQ 6
    have hbb := below_trans (below_alloc w _) hu.bel (by simp)
    have hle := flatR_le R n.kids j
    have hle2 := flatR_le R n.kids (j + 1)
    have Hu := hide hu
    by_cases hl2 : j < n.kids.length
    · have hrow := row_below hbb Kd.out
      obtain ⟨g, cap, hsh⟩ := shape_pos hrow (by omega)
      simp only [Value.slice.injEq, true_and] at hsh
      obtain ⟨rfl, rfl⟩ := hsh
      have kc5 := pile_top hrow (List.getElem?_eq_getElem hl2)
      have C := hide (KK.out n.kids[j] (List.getElem_mem hl2) wr (.slice la l.length lc) (Sd.out.below (below_trans (below_alloc w _) hu.bel (by simp))))
      have hft := flatR_take R n.kids j hl2
      rw [hft, List.length_append] at hle2
      have Ht := hide hft
      have hb9 : ((((ua ++ [(zo, 8)]) ++ [(zn, 1)])) ++ flatR R (n.kids.take j)).length + (R n.kids[j]).length ≤ 1000000 := by rw [List.length_append]; omega
      have Hb9 := hide hb9
      clear hb9
      clear hrow hft hu hQ hbb
      generalize R n.kids[j] = rk at *
      generalize n.kids[j] = kid at *
      go_wp2_with (first | (go_at_call 72; refine C.out.mono ?_; rintro e w7 ⟨v7, rfl, u7⟩; have U7 := hide u7; clear u7) | (at_builtin; refine wpList_appendV (by decide) Tryz.underlying149 useInfo rfl (by decide) rfl _ _ rfl u8 ((((ua ++ [(zo, 8)]) ++ [(zn, 1)])) ++ flatR R (n.kids.take j)).length (usesV ((((ua ++ [(zo, 8)]) ++ [(zn, 1)])) ++ flatR R (n.kids.take j))) rfl (row_below U7.out.bel Hu.out.own) v7 rk.length (usesV rk) rfl U7.out.own (usesV_one _) Hb9.out ?_; intro v8 w8 o8 g8 b8; have um := Hu.out.more U7.out.bel o8 g8 b8; have U8 := hide um; have G8 := hide g8; clear o8 g8 b8 um))
      go_roundw
      case rel =>
        refine ⟨j + 1, by omega, by go_num, ?_⟩
        · rw [Ht.out, ← List.append_assoc]; exact U8.out
      case measure => simp [intOf]; omega
    · have hje : n.kids.take j = n.kids := List.take_of_length_le (by omega)
      rw [hje] at Hu
      clear hu hQ hbb
      go_wp2_with fail
      go_ret
      exact ⟨_, rfl, Hu.out.end⟩

set_option maxRecDepth 20000 in
set_option maxHeartbeats 8000000 in
theorem us_dd {lo b : Nat} {ρ : Nat → Ro} {M : List (RNd × Value)} {s : XR} {vn vx vt : Value} {line : Int} {l : List RDc} {la : Option Addr} {lc : Nat} (w : World) (see : See w lo b ρ M s vn vx vt line l (.slice la l.length lc)) {k : Nat} {n : RNd} {kv : Value} (hk : M[k]? = some (n, kv)) (_hm : M.length ≤ 2000) (_hkl : n.kids.length ≤ 2000) (hex : n.ex = none) (hov : n.over = []) (hnm : n.name ≠ []) (hkd : n.kind = wVar ∨ n.kind = wChan) (R : Nat → List (Int × Nat)) (hlen : (([] : List (Int × Nat))).length + (flatR R n.kids).length ≤ 900000) (K : ∀ kid ∈ n.kids, ∀ (w' : World) (lv : Value), See w' lo b ρ M s vn vx vt line (l ++ [⟨n.name, decide (n.kind = wChan), k⟩]) lv → Calls Tryz.prog 72 #[.pointer (some ⟨b, 0, none⟩), lv, .int .i64 kid] w' fun e w'' => ∃ v, e = .returned v ∧ UseAt w' w'' v (R kid)) (hfw : l.length + 1 ≤ 2000) :
    Calls Tryz.prog 72 #[.pointer (some ⟨b, 0, none⟩), .slice la l.length lc, .int .i64 k] w fun e w' => ∃ v, e = .returned v ∧ UseAt w w' v ((([] : List (Int × Nat))) ++ flatR R n.kids) := by
  have c0 := see.tx.rd.c0
  obtain ⟨gn, capn, hvn, h1, h2, hc⟩ := node_at see.tx.nodes hk
  obtain ⟨ka, kc, hkv⟩ := ownsRow_len (see.tx.kids k n kv hk)
  have hlt : k < M.length := (List.getElem?_eq_some_iff.1 hk).1
  have Kd := hide (see.tx.kids k n kv hk)
  have d0 := hc 0 _ rfl; rw [Nat.add_zero] at d0; have d1 := hc 1 _ rfl; have d2 := hc 2 _ rfl; have d3 := hc 3 _ rfl; have d4 := hc 4 _ rfl; have d5 := hc 5 _ rfl; have d6 := hc 6 _ rfl
  rw [hvn] at c0
  subst hkv
  have Sd := hide see; have Hk := hide hk
  have Me := hide (fun t ch w h => rmeans_any l (.slice la l.length lc) t ch w h see.few)
  clear see hc hk hvn
  rw [hex] at d5
  replace d5 : w.cell? ⟨gn, k * 7 + 5, none⟩ = some (.int .i64 (-1)) := d5
  have eo : (n.over == []) = true := by rw [hov]; rfl
  have en : (n.name == []) = false := by rw [beq_eq_false_iff_ne]; exact hnm
  have kd : (n.kind == [118, 97, 114]) = true ∨ (n.kind == [118, 97, 114]) = false ∧ (n.kind == [99, 104, 97, 110]) = true := by
    rcases hkd with x | x
    · exact .inl (by rw [beq_iff_eq]; exact x)
    · exact .inr ⟨by rw [x]; decide, by rw [beq_iff_eq]; exact x⟩
  clear hkd hov hnm hex Me
  have KK := hide K
  clear K
  rcases kd with kd1 | ⟨kd1, kd2⟩
  all_goals
    go_enter Tryz.func72, Tryz.ntmps72
    go_wp2_with (first | (go_at_call 71; refine (declared_both _ (Sd.out.below (below_alloc _ _)) Hk.out _hm).mono ?_; rintro e w2 ⟨v2, rfl, o2, b2⟩; obtain ⟨la2, lc2, hv2⟩ := ownsRow_len o2; subst hv2; have q2 := Below.at b2 (at_new w _) (by simp); have y62 := cell_at q2 6; have B2 := hide (below_trans (below_alloc w _) b2 (by simp)); have Q2 := hide q2; have O2 := hide o2; clear o2 b2 q2))
    go_loopw [8, 10] (fun out i wr => ∃ j : Nat, j ≤ n.kids.length ∧ i = .int .i64 j ∧ UseAt w2 wr out ((([] : List (Int × Nat))) ++ flatR R (n.kids.take j))) (fun _ i _ => n.kids.length - (intOf i).toNat)
    case atStart => exact ⟨0, Nat.zero_le _, rfl, by simpa [flatR] using (UseAt.nil w2)⟩
    case round =>
      obtain ⟨j, hj, rfl, hu⟩ := hrel
      have hQ := Below.at hu.bel Q2.out (lt_of_at Q2.out)
      have y6 : wr.cell? ⟨w.heap.size, 6, none⟩ = some (.slice ka n.kids.length kc) := cell_at hQ 6
      have hbb := below_trans B2.out hu.bel B2.out.size
      have hle := flatR_le R n.kids j
      have hle2 := flatR_le R n.kids (j + 1)
      have Hu := hide hu
      by_cases hl2 : j < n.kids.length
      · have hrow := row_below hbb Kd.out
        obtain ⟨g, cap, hsh⟩ := shape_pos hrow (by omega)
        simp only [Value.slice.injEq, true_and] at hsh
        obtain ⟨rfl, rfl⟩ := hsh
        have kc5 := pile_top hrow (List.getElem?_eq_getElem hl2)
        have C := hide (KK.out n.kids[j] (List.getElem_mem hl2) wr (.slice la2 (l.length + 1) lc2) ⟨(Sd.out.below hbb).tx, by have := row_below hu.bel O2.out; simpa using this, by simpa using hfw⟩)
        have hft := flatR_take R n.kids j hl2
        rw [hft, List.length_append] at hle2
        have Ht := hide hft
        have hb9 : ((([] : List (Int × Nat))) ++ flatR R (n.kids.take j)).length + (R n.kids[j]).length ≤ 1000000 := by rw [List.length_append]; omega
        have Hb9 := hide hb9
        clear hb9
        clear hrow hft hu hQ hbb
        generalize R n.kids[j] = rk at *
        generalize n.kids[j] = kid at *
        go_wp2_with (first | (go_at_call 72; refine C.out.mono ?_; rintro e w7 ⟨v7, rfl, u7⟩; have U7 := hide u7; clear u7) | (at_builtin; refine wpList_appendV (by decide) Tryz.underlying149 useInfo rfl (by decide) rfl _ _ rfl u8 ((([] : List (Int × Nat))) ++ flatR R (n.kids.take j)).length (usesV ((([] : List (Int × Nat))) ++ flatR R (n.kids.take j))) rfl (row_below U7.out.bel Hu.out.own) v7 rk.length (usesV rk) rfl U7.out.own (usesV_one _) Hb9.out ?_; intro v8 w8 o8 g8 b8; have um := Hu.out.more U7.out.bel o8 g8 b8; have U8 := hide um; have G8 := hide g8; clear o8 g8 b8 um))
        go_roundw
        case rel =>
          refine ⟨j + 1, by omega, by go_num, ?_⟩
          · rw [Ht.out, ← List.append_assoc]; exact U8.out
        case measure => simp [intOf]; omega
      · have hje : n.kids.take j = n.kids := List.take_of_length_le (by omega)
        rw [hje] at Hu
        clear hu hQ hbb
        go_wp2_with fail
        go_ret
        exact ⟨_, rfl, Hu.out.end2 B2.out⟩
end Go.Proofs.YtnhidaamfnjdjaaGreatDoor
