import Derived.Test.YtnhidaamfnjdjaaGreatDoorRhY
namespace Go.Proofs.YtnhidaamfnjdjaaGreatDoor
open Go.RowKit Go.Maps

set_option maxRecDepth 20000 in
set_option maxHeartbeats 8000000 in
theorem sh_b {lo b : Nat} {ρ : Nat → Ro} {M : List (RNd × Value)} {s : XR} {vn vx vt : Value} {line : Int} {l : List RDc} {la : Option Addr} {lc : Nat} (w : World) (see : See w lo b ρ M s vn vx vt line l (.slice la l.length lc)) {k : Nat} {n : RNd} {kv : Value} (hk : M[k]? = some (n, kv)) (_hm : M.length ≤ 2000) (_hkl : n.kids.length ≤ 2000) (hpp : n.kind ≠ wPar ∧ n.kind ≠ wPri) (hkd : n.kind ≠ wVar ∧ n.kind ≠ wChan) (R : Nat → Int) (K : ∀ kid ∈ n.kids, 0 ≤ R kid ∧ ∀ (w' : World) (lv : Value), See w' lo b ρ M s vn vx vt line l lv → Calls Tryz.prog 47 #[.pointer (some ⟨b, 0, none⟩), lv, .int .i64 kid] w' fun e w'' => e = .returned (.int .i64 (R kid)) ∧ Below w'.heap.size w' w'') :
    Calls Tryz.prog 47 #[.pointer (some ⟨b, 0, none⟩), .slice la l.length lc, .int .i64 k] w fun e w' => e = .returned (.int .i64 (firstN R n.kids)) ∧ Below w.heap.size w w' := by
  have c0 := see.tx.rd.c0
  obtain ⟨gn, capn, hvn, h1, h2, hc⟩ := node_at see.tx.nodes hk
  obtain ⟨ka, kc, hkv⟩ := ownsRow_len (see.tx.kids k n kv hk)
  have hlt : k < M.length := (List.getElem?_eq_some_iff.1 hk).1
  have Kd := hide (see.tx.kids k n kv hk)
  have d0 := hc 0 _ rfl; rw [Nat.add_zero] at d0; have d1 := hc 1 _ rfl; have d2 := hc 2 _ rfl; have d3 := hc 3 _ rfl; have d4 := hc 4 _ rfl; have d5 := hc 5 _ rfl; have d6 := hc 6 _ rfl
  rw [hvn] at c0
  subst hkv
  have Sd := hide see; have Hk := hide hk
  have Me := hide (fun t ch w h => rmeans_any l (.slice la l.length lc) t ch w h see.few)
  clear see hc hk hvn
  have ep1 : (n.kind == [112, 97, 114]) = false := by rw [beq_eq_false_iff_ne]; exact hpp.1
  have ep2 : (n.kind == [112, 114, 105]) = false := by rw [beq_eq_false_iff_ne]; exact hpp.2
  have kd1 : (n.kind == [118, 97, 114]) = false := by rw [beq_eq_false_iff_ne]; exact hkd.1
  have kd2 : (n.kind == [99, 104, 97, 110]) = false := by rw [beq_eq_false_iff_ne]; exact hkd.2
  clear hkd hpp Me
  have KK := hide K
  clear K
  generalize hml : M.length = m at *
  clear hml
  go_enter Tryz.func47, Tryz.ntmps47
  go_wp2_with fail
  have hB : Below w.heap.size w (w.alloc (.cells #[.string ⟨n.kind.toArray⟩, .int .i64 n.line, .int .i64 n.inn, .string ⟨n.name.toArray⟩, .string ⟨n.over.toArray⟩, .int .i64 (exI n.ex), .slice ka n.kids.length kc] 145)) := (below_alloc w _)
  have hQ : ((w.alloc (.cells #[.string ⟨n.kind.toArray⟩, .int .i64 n.line, .int .i64 n.inn, .string ⟨n.name.toArray⟩, .string ⟨n.over.toArray⟩, .int .i64 (exI n.ex), .slice ka n.kids.length kc] 145))).heap[w.heap.size]? = some (.cells #[.string ⟨n.kind.toArray⟩, .int .i64 n.line, .int .i64 n.inn, .string ⟨n.name.toArray⟩, .string ⟨n.over.toArray⟩, .int .i64 (exI n.ex), .slice ka n.kids.length kc] 145) := at_new w _
  generalize (w.alloc (.cells #[.string ⟨n.kind.toArray⟩, .int .i64 n.line, .int .i64 n.inn, .string ⟨n.name.toArray⟩, .string ⟨n.over.toArray⟩, .int .i64 (exI n.ex), .slice ka n.kids.length kc] 145)) = ws at hB hQ ⊢
  go_loopw [13] (fun i wr => ∃ j : Nat, j ≤ n.kids.length ∧ i = .int .i64 j ∧ firstN R (n.kids.take j) = 0 ∧ Below ws.heap.size ws wr) (fun i _ => n.kids.length - (intOf i).toNat)
  case atStart => exact ⟨0, Nat.zero_le _, rfl, rfl, Below.refl _ _⟩
  case round =>
    obtain ⟨j, hj, rfl, hf, hb⟩ := hrel
    have y6 : wr.cell? ⟨w.heap.size, 6, none⟩ = some (.slice ka n.kids.length kc) := cell_at (Below.at hb hQ (lt_of_at hQ)) 6
    have hbb := below_trans hB hb hB.size
    have Hf := hide hf; have Hbb := hide hbb
    by_cases hl2 : j < n.kids.length
    · have hrow := row_below hbb Kd.out
      obtain ⟨g, cap, hsh⟩ := shape_pos hrow (by omega)
      simp only [Value.slice.injEq, true_and] at hsh
      obtain ⟨rfl, rfl⟩ := hsh
      have kc5 := pile_top hrow (List.getElem?_eq_getElem hl2)
      obtain ⟨hr0, hcall⟩ := KK.out n.kids[j] (List.getElem_mem hl2)
      have C := hide (hcall wr (.slice la l.length lc) (Sd.out.below hbb))
      have Ht := hide (firstN_take R n.kids j hl2 hf)
      have Hs := hide (firstN_stop R n.kids j hl2 hf)
      clear hrow hcall hf
      generalize n.kids[j] = kid at *
      by_cases hz : R kid = 0
      · rw [hz] at C
        go_wp2_with (go_at_call 47; refine C.out.mono ?_; rintro e w6 ⟨rfl, b6⟩; have B6 := hide b6; clear b6)
        go_roundw
        case rel => exact ⟨j + 1, by omega, by go_num, by rw [Ht.out]; exact hz, below_trans hb B6.out hb.size⟩
        case measure => simp [intOf]; omega
      · have Hz := hide (Hs.out hz)
        have hp : 0 < R kid := by omega
        clear hz Ht Hs hr0
        generalize R kid = r at *
        go_wp2_with (go_at_call 47; refine C.out.mono ?_; rintro e w6 ⟨rfl, b6⟩; have B6 := hide b6; clear b6)
        go_ret
        exact ⟨by rw [Hz.out]; rfl, below_trans Hbb.out B6.out Hbb.out.size⟩
    · have hje : n.kids.take j = n.kids := List.take_of_length_le (by omega)
      rw [hje] at Hf
      go_wp2_with fail
      go_ret
      exact ⟨by rw [Hf.out]; rfl, Hbb.out⟩

set_option maxRecDepth 20000 in
set_option maxHeartbeats 8000000 in
theorem sh_dd {lo b : Nat} {ρ : Nat → Ro} {M : List (RNd × Value)} {s : XR} {vn vx vt : Value} {line : Int} {l : List RDc} {la : Option Addr} {lc : Nat} (w : World) (see : See w lo b ρ M s vn vx vt line l (.slice la l.length lc)) {k : Nat} {n : RNd} {kv : Value} (hk : M[k]? = some (n, kv)) (_hm : M.length ≤ 2000) (_hkl : n.kids.length ≤ 2000) (hpp : n.kind ≠ wPar ∧ n.kind ≠ wPri) (hkd : n.kind = wVar ∨ n.kind = wChan) (R : Nat → Int) (K : ∀ kid ∈ n.kids, 0 ≤ R kid ∧ ∀ (w' : World) (lv : Value), See w' lo b ρ M s vn vx vt line (l ++ [⟨n.name, decide (n.kind = wChan), k⟩]) lv → Calls Tryz.prog 47 #[.pointer (some ⟨b, 0, none⟩), lv, .int .i64 kid] w' fun e w'' => e = .returned (.int .i64 (R kid)) ∧ Below w'.heap.size w' w'') (hfw : l.length + 1 ≤ 2000) :
    Calls Tryz.prog 47 #[.pointer (some ⟨b, 0, none⟩), .slice la l.length lc, .int .i64 k] w fun e w' => e = .returned (.int .i64 (firstN R n.kids)) ∧ Below w.heap.size w w' := by
  have c0 := see.tx.rd.c0
  obtain ⟨gn, capn, hvn, h1, h2, hc⟩ := node_at see.tx.nodes hk
  obtain ⟨ka, kc, hkv⟩ := ownsRow_len (see.tx.kids k n kv hk)
  have hlt : k < M.length := (List.getElem?_eq_some_iff.1 hk).1
  have Kd := hide (see.tx.kids k n kv hk)
  have d0 := hc 0 _ rfl; rw [Nat.add_zero] at d0; have d1 := hc 1 _ rfl; have d2 := hc 2 _ rfl; have d3 := hc 3 _ rfl; have d4 := hc 4 _ rfl; have d5 := hc 5 _ rfl; have d6 := hc 6 _ rfl
  rw [hvn] at c0
  subst hkv
  have Sd := hide see; have Hk := hide hk
  have Me := hide (fun t ch w h => rmeans_any l (.slice la l.length lc) t ch w h see.few)
  clear see hc hk hvn
  have ep1 : (n.kind == [112, 97, 114]) = false := by rw [beq_eq_false_iff_ne]; exact hpp.1
  have ep2 : (n.kind == [112, 114, 105]) = false := by rw [beq_eq_false_iff_ne]; exact hpp.2
  have kd : (n.kind == [118, 97, 114]) = true ∨ (n.kind == [118, 97, 114]) = false ∧ (n.kind == [99, 104, 97, 110]) = true := by
    rcases hkd with x | x
    · exact .inl (by rw [beq_iff_eq]; exact x)
    · exact .inr ⟨by rw [x]; decide, by rw [beq_iff_eq]; exact x⟩
  clear hkd hpp Me
  have KK := hide K
  clear K
  rcases kd with kd1 | ⟨kd1, kd2⟩
  all_goals
    go_enter Tryz.func47, Tryz.ntmps47
    go_wp2_with (first | (go_at_call 71; refine (declared_both _ (Sd.out.below (below_alloc _ _)) Hk.out _hm).mono ?_; rintro e w2 ⟨v2, rfl, o2, b2⟩; obtain ⟨la2, lc2, hv2⟩ := ownsRow_len o2; subst hv2; have q2 := Below.at b2 (at_new w _) (by simp); have y62 := cell_at q2 6; have B2 := hide (below_trans (below_alloc w _) b2 (by simp)); have O2 := hide o2; have Q2 := hide q2; clear o2 b2 q2))
    have hB : Below w.heap.size w w2 := B2.out
    have hQ : (w2).heap[w.heap.size]? = some (.cells #[.string ⟨n.kind.toArray⟩, .int .i64 n.line, .int .i64 n.inn, .string ⟨n.name.toArray⟩, .string ⟨n.over.toArray⟩, .int .i64 (exI n.ex), .slice ka n.kids.length kc] 145) := Q2.out
    generalize hws : w2 = ws at *
    clear hws
    go_loopw [13] (fun i wr => ∃ j : Nat, j ≤ n.kids.length ∧ i = .int .i64 j ∧ firstN R (n.kids.take j) = 0 ∧ Below ws.heap.size ws wr) (fun i _ => n.kids.length - (intOf i).toNat)
    case atStart => exact ⟨0, Nat.zero_le _, rfl, rfl, Below.refl _ _⟩
    case round =>
      obtain ⟨j, hj, rfl, hf, hb⟩ := hrel
      have y6 : wr.cell? ⟨w.heap.size, 6, none⟩ = some (.slice ka n.kids.length kc) := cell_at (Below.at hb hQ (lt_of_at hQ)) 6
      have hbb := below_trans hB hb hB.size
      have Hf := hide hf; have Hbb := hide hbb
      by_cases hl2 : j < n.kids.length
      · have hrow := row_below hbb Kd.out
        obtain ⟨g, cap, hsh⟩ := shape_pos hrow (by omega)
        simp only [Value.slice.injEq, true_and] at hsh
        obtain ⟨rfl, rfl⟩ := hsh
        have kc5 := pile_top hrow (List.getElem?_eq_getElem hl2)
        obtain ⟨hr0, hcall⟩ := KK.out n.kids[j] (List.getElem_mem hl2)
        have C := hide (hcall wr (.slice la2 (l.length + 1) lc2) ⟨(Sd.out.below hbb).tx, by have := row_below hb O2.out; simpa using this, by simpa using hfw⟩)
        have Ht := hide (firstN_take R n.kids j hl2 hf)
        have Hs := hide (firstN_stop R n.kids j hl2 hf)
        clear hrow hcall hf
        generalize n.kids[j] = kid at *
        by_cases hz : R kid = 0
        · rw [hz] at C
          go_wp2_with (go_at_call 47; refine C.out.mono ?_; rintro e w6 ⟨rfl, b6⟩; have B6 := hide b6; clear b6)
          go_roundw
          case rel => exact ⟨j + 1, by omega, by go_num, by rw [Ht.out]; exact hz, below_trans hb B6.out hb.size⟩
          case measure => simp [intOf]; omega
        · have Hz := hide (Hs.out hz)
          have hp : 0 < R kid := by omega
          clear hz Ht Hs hr0
          generalize R kid = r at *
          go_wp2_with (go_at_call 47; refine C.out.mono ?_; rintro e w6 ⟨rfl, b6⟩; have B6 := hide b6; clear b6)
          go_ret
          exact ⟨by rw [Hz.out]; rfl, below_trans Hbb.out B6.out Hbb.out.size⟩
      · have hje : n.kids.take j = n.kids := List.take_of_length_le (by omega)
        rw [hje] at Hf
        go_wp2_with fail
        go_ret
        exact ⟨by rw [Hf.out]; rfl, Hbb.out⟩
end Go.Proofs.YtnhidaamfnjdjaaGreatDoor
