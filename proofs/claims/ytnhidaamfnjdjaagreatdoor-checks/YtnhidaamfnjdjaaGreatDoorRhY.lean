import Derived.Test.YtnhidaamfnjdjaaGreatDoorRhV
import Derived.Test.YtnhidaamfnjdjaaGreatDoorRhP
namespace Go.Proofs.YtnhidaamfnjdjaaGreatDoor
open Go.RowKit Go.Maps

/-- the first of them that is not 0 -/
def firstN (R : Nat → Int) (ks : List Nat) : Int := ks.foldl (fun a k => if a ≠ 0 then a else R k) 0
theorem firstN_take (R : Nat → Int) (ks : List Nat) (j : Nat) (hj : j < ks.length) (h : firstN R (ks.take j) = 0) : firstN R (ks.take (j + 1)) = R ks[j] := by
  unfold firstN at h ⊢
  rw [List.take_add_one, List.getElem?_eq_getElem hj, List.foldl_append, h]
  simp
theorem firstN_stop (R : Nat → Int) (ks : List Nat) (j : Nat) (hj : j < ks.length) (h : firstN R (ks.take j) = 0) (hr : R ks[j] ≠ 0) : firstN R ks = R ks[j] := by
  have e : ks = ks.take (j + 1) ++ ks.drop (j + 1) := (List.take_append_drop _ _).symm
  have h2 := firstN_take R ks j hj h
  unfold firstN at h2 ⊢
  conv => lhs; rw [e]
  rw [List.foldl_append, h2, foldl_lineOr]
  unfold lineOr
  rw [if_pos hr]

set_option maxRecDepth 20000 in
set_option maxHeartbeats 8000000 in
theorem nm_b0 {lo b : Nat} {ρ : Nat → Ro} {M : List (RNd × Value)} {s : XR} {vn vx vt : Value} {line : Int} {l : List RDc} {la : Option Addr} {lc : Nat} (w : World) (see : See w lo b ρ M s vn vx vt line l (.slice la l.length lc)) {k : Nat} {n : RNd} {kv : Value} (hk : M[k]? = some (n, kv)) (_hm : M.length ≤ 2000) (_hkl : n.kids.length ≤ 2000) (hex : n.ex = none) (hov : n.over = []) (hnm : n.name = []) (hkd : n.kind ≠ wVar ∧ n.kind ≠ wChan) (R : Nat → Int) (K : ∀ kid ∈ n.kids, 0 ≤ R kid ∧ ∀ (w' : World) (lv : Value), See w' lo b ρ M s vn vx vt line l lv → Calls Tryz.prog 46 #[.pointer (some ⟨b, 0, none⟩), lv, .int .i64 kid] w' fun e w'' => e = .returned (.int .i64 (R kid)) ∧ Below w'.heap.size w' w'') :
    Calls Tryz.prog 46 #[.pointer (some ⟨b, 0, none⟩), .slice la l.length lc, .int .i64 k] w fun e w' => e = .returned (.int .i64 (firstN R n.kids)) ∧ Below w.heap.size w w' := by
  have c0 := see.tx.rd.c0
  obtain ⟨gn, capn, hvn, h1, h2, hc⟩ := node_at see.tx.nodes hk
  obtain ⟨ka, kc, hkv⟩ := ownsRow_len (see.tx.kids k n kv hk)
  have hlt : k < M.length := (List.getElem?_eq_some_iff.1 hk).1
  have Kd := hide (see.tx.kids k n kv hk)
  have d0 := hc 0 _ rfl; rw [Nat.add_zero] at d0; have d1 := hc 1 _ rfl; have d2 := hc 2 _ rfl; have d3 := hc 3 _ rfl; have d4 := hc 4 _ rfl; have d5 := hc 5 _ rfl; have d6 := hc 6 _ rfl
  rw [hvn] at c0
  subst hkv
  have Sd := hide see; have Hk := hide hk
  have Me := hide (fun t ch w h => rmeans_any l (.slice la l.length lc) t ch w h see.few)
  clear see hc hk hvn
  rw [hex] at d5
  replace d5 : w.cell? ⟨gn, k * 7 + 5, none⟩ = some (.int .i64 (-1)) := d5
  have eo : (n.over == []) = true := by rw [hov]; rfl
  have en : (n.name == []) = true := by rw [hnm]; rfl
  have kd1 : (n.kind == [118, 97, 114]) = false := by rw [beq_eq_false_iff_ne]; exact hkd.1
  have kd2 : (n.kind == [99, 104, 97, 110]) = false := by rw [beq_eq_false_iff_ne]; exact hkd.2
  clear hkd hov hnm hex Me
  have KK := hide K
  clear K
  generalize hml : M.length = m at *
  clear hml
  go_enter Tryz.func46, Tryz.ntmps46
  go_wp2_with fail
  have hB : Below w.heap.size w (w.alloc (.cells #[.string ⟨n.kind.toArray⟩, .int .i64 n.line, .int .i64 n.inn, .string ⟨n.name.toArray⟩, .string ⟨n.over.toArray⟩, .int .i64 (-1), .slice ka n.kids.length kc] 145)) := (below_alloc w _)
  have hQ : ((w.alloc (.cells #[.string ⟨n.kind.toArray⟩, .int .i64 n.line, .int .i64 n.inn, .string ⟨n.name.toArray⟩, .string ⟨n.over.toArray⟩, .int .i64 (-1), .slice ka n.kids.length kc] 145))).heap[w.heap.size]? = some (.cells #[.string ⟨n.kind.toArray⟩, .int .i64 n.line, .int .i64 n.inn, .string ⟨n.name.toArray⟩, .string ⟨n.over.toArray⟩, .int .i64 (-1), .slice ka n.kids.length kc] 145) := at_new w _
  generalize (w.alloc (.cells #[.string ⟨n.kind.toArray⟩, .int .i64 n.line, .int .i64 n.inn, .string ⟨n.name.toArray⟩, .string ⟨n.over.toArray⟩, .int .i64 (-1), .slice ka n.kids.length kc] 145)) = ws at hB hQ ⊢
  go_loopw [10] (fun i wr => ∃ j : Nat, j ≤ n.kids.length ∧ i = .int .i64 j ∧ firstN R (n.kids.take j) = 0 ∧ Below ws.heap.size ws wr) (fun i _ => n.kids.length - (intOf i).toNat)
  case atStart => exact ⟨0, Nat.zero_le _, rfl, rfl, Below.refl _ _⟩
  case round =>
    obtain ⟨j, hj, rfl, hf, hb⟩ := hrel
    have y6 : wr.cell? ⟨w.heap.size, 6, none⟩ = some (.slice ka n.kids.length kc) := cell_at (Below.at hb hQ (lt_of_at hQ)) 6
    have hbb := below_trans hB hb hB.size
    have Hf := hide hf; have Hbb := hide hbb
    by_cases hl2 : j < n.kids.length
    · have hrow := row_below hbb Kd.out
      obtain ⟨g, cap, hsh⟩ := shape_pos hrow (by omega)
      simp only [Value.slice.injEq, true_and] at hsh
      obtain ⟨rfl, rfl⟩ := hsh
      have kc5 := pile_top hrow (List.getElem?_eq_getElem hl2)
      obtain ⟨hr0, hcall⟩ := KK.out n.kids[j] (List.getElem_mem hl2)
      have C := hide (hcall wr (.slice la l.length lc) (Sd.out.below hbb))
      have Ht := hide (firstN_take R n.kids j hl2 hf)
      have Hs := hide (firstN_stop R n.kids j hl2 hf)
      clear hrow hcall hf
      generalize n.kids[j] = kid at *
      by_cases hz : R kid = 0
      · rw [hz] at C
        go_wp2_with (go_at_call 46; refine C.out.mono ?_; rintro e w6 ⟨rfl, b6⟩; have B6 := hide b6; clear b6)
        go_roundw
        case rel => exact ⟨j + 1, by omega, by go_num, by rw [Ht.out]; exact hz, below_trans hb B6.out hb.size⟩
        case measure => simp [intOf]; omega
      · have Hz := hide (Hs.out hz)
        have hp : 0 < R kid := by omega
        clear hz Ht Hs hr0
        generalize R kid = r at *
        go_wp2_with (go_at_call 46; refine C.out.mono ?_; rintro e w6 ⟨rfl, b6⟩; have B6 := hide b6; clear b6)
        go_ret
        exact ⟨by rw [Hz.out]; rfl, below_trans Hbb.out B6.out Hbb.out.size⟩
    · have hje : n.kids.take j = n.kids := List.take_of_length_le (by omega)
      rw [hje] at Hf
      go_wp2_with fail
      go_ret
      exact ⟨by rw [Hf.out]; rfl, Hbb.out⟩

set_option maxRecDepth 20000 in
set_option maxHeartbeats 8000000 in
theorem nm_b1 {lo b : Nat} {ρ : Nat → Ro} {M : List (RNd × Value)} {s : XR} {vn vx vt : Value} {line : Int} {l : List RDc} {la : Option Addr} {lc : Nat} (w : World) (see : See w lo b ρ M s vn vx vt line l (.slice la l.length lc)) {k : Nat} {n : RNd} {kv : Value} (hk : M[k]? = some (n, kv)) (_hm : M.length ≤ 2000) (_hkl : n.kids.length ≤ 2000) {pe : PE} {ei : Nat} (hex : n.ex = some ei) (rep : RepX s.xs ei pe) (hxl : s.xs.length ≤ 500000) (hpe : peOk l pe = true) (hov : n.over = []) (hnm : n.name = []) (hkd : n.kind ≠ wVar ∧ n.kind ≠ wChan) (R : Nat → Int) (K : ∀ kid ∈ n.kids, 0 ≤ R kid ∧ ∀ (w' : World) (lv : Value), See w' lo b ρ M s vn vx vt line l lv → Calls Tryz.prog 46 #[.pointer (some ⟨b, 0, none⟩), lv, .int .i64 kid] w' fun e w'' => e = .returned (.int .i64 (R kid)) ∧ Below w'.heap.size w' w'') :
    Calls Tryz.prog 46 #[.pointer (some ⟨b, 0, none⟩), .slice la l.length lc, .int .i64 k] w fun e w' => e = .returned (.int .i64 (firstN R n.kids)) ∧ Below w.heap.size w w' := by
  have c0 := see.tx.rd.c0
  obtain ⟨gn, capn, hvn, h1, h2, hc⟩ := node_at see.tx.nodes hk
  obtain ⟨ka, kc, hkv⟩ := ownsRow_len (see.tx.kids k n kv hk)
  have hlt : k < M.length := (List.getElem?_eq_some_iff.1 hk).1
  have Kd := hide (see.tx.kids k n kv hk)
  have d0 := hc 0 _ rfl; rw [Nat.add_zero] at d0; have d1 := hc 1 _ rfl; have d2 := hc 2 _ rfl; have d3 := hc 3 _ rfl; have d4 := hc 4 _ rfl; have d5 := hc 5 _ rfl; have d6 := hc 6 _ rfl
  rw [hvn] at c0
  subst hkv
  have Sd := hide see; have Hk := hide hk
  have Me := hide (fun t ch w h => rmeans_any l (.slice la l.length lc) t ch w h see.few)
  clear see hc hk hvn
  rw [hex] at d5
  replace d5 : w.cell? ⟨gn, k * 7 + 5, none⟩ = some (.int .i64 (ei : Int)) := d5
  have Ex := hide (fun w' h => exprMeans_any (la := la) (lc := lc) (l := l) (lo := lo) (b := b) (ρ := ρ) (M := M) (vn := vn) (vx := vx) (vt := vt) (line := line) hxl rep w' h)
  rw [hpe] at Ex
  have eo : (n.over == []) = true := by rw [hov]; rfl
  have en : (n.name == []) = true := by rw [hnm]; rfl
  have kd1 : (n.kind == [118, 97, 114]) = false := by rw [beq_eq_false_iff_ne]; exact hkd.1
  have kd2 : (n.kind == [99, 104, 97, 110]) = false := by rw [beq_eq_false_iff_ne]; exact hkd.2
  clear hkd hov hnm hex Me
  have KK := hide K
  clear K
  generalize hml : M.length = m at *
  clear hml
  go_enter Tryz.func46, Tryz.ntmps46
  go_wp2_with (first | (go_at_call 69; refine (Ex.out _ (Sd.out.below (below_alloc _ _))).mono ?_; rintro e w1 ⟨rfl, b1⟩; have q1 := Below.at b1 (at_new w _) (by simp); have x10 := cell_at q1 0; have x11 := cell_at q1 1; have x13 := cell_at q1 3; have x14 := cell_at q1 4; have x15 := cell_at q1 5; have x16 := cell_at q1 6; have B1 := hide (below_trans (below_alloc w _) b1 (by simp)); have Q1 := hide q1; clear b1 q1 Ex))
  have hB : Below w.heap.size w w1 := B1.out
  have hQ : (w1).heap[w.heap.size]? = some (.cells #[.string ⟨n.kind.toArray⟩, .int .i64 n.line, .int .i64 n.inn, .string ⟨n.name.toArray⟩, .string ⟨n.over.toArray⟩, .int .i64 (ei : Int), .slice ka n.kids.length kc] 145) := Q1.out
  generalize w1 = ws at hB hQ ⊢
  go_loopw [10] (fun i wr => ∃ j : Nat, j ≤ n.kids.length ∧ i = .int .i64 j ∧ firstN R (n.kids.take j) = 0 ∧ Below ws.heap.size ws wr) (fun i _ => n.kids.length - (intOf i).toNat)
  case atStart => exact ⟨0, Nat.zero_le _, rfl, rfl, Below.refl _ _⟩
  case round =>
    obtain ⟨j, hj, rfl, hf, hb⟩ := hrel
    have y6 : wr.cell? ⟨w.heap.size, 6, none⟩ = some (.slice ka n.kids.length kc) := cell_at (Below.at hb hQ (lt_of_at hQ)) 6
    have hbb := below_trans hB hb hB.size
    have Hf := hide hf; have Hbb := hide hbb
    by_cases hl2 : j < n.kids.length
    · have hrow := row_below hbb Kd.out
      obtain ⟨g, cap, hsh⟩ := shape_pos hrow (by omega)
      simp only [Value.slice.injEq, true_and] at hsh
      obtain ⟨rfl, rfl⟩ := hsh
      have kc5 := pile_top hrow (List.getElem?_eq_getElem hl2)
      obtain ⟨hr0, hcall⟩ := KK.out n.kids[j] (List.getElem_mem hl2)
      have C := hide (hcall wr (.slice la l.length lc) (Sd.out.below hbb))
      have Ht := hide (firstN_take R n.kids j hl2 hf)
      have Hs := hide (firstN_stop R n.kids j hl2 hf)
      clear hrow hcall hf
      generalize n.kids[j] = kid at *
      by_cases hz : R kid = 0
      · rw [hz] at C
        go_wp2_with (go_at_call 46; refine C.out.mono ?_; rintro e w6 ⟨rfl, b6⟩; have B6 := hide b6; clear b6)
        go_roundw
        case rel => exact ⟨j + 1, by omega, by go_num, by rw [Ht.out]; exact hz, below_trans hb B6.out hb.size⟩
        case measure => simp [intOf]; omega
      · have Hz := hide (Hs.out hz)
        have hp : 0 < R kid := by omega
        clear hz Ht Hs hr0
        generalize R kid = r at *
        go_wp2_with (go_at_call 46; refine C.out.mono ?_; rintro e w6 ⟨rfl, b6⟩; have B6 := hide b6; clear b6)
        go_ret
        exact ⟨by rw [Hz.out]; rfl, below_trans Hbb.out B6.out Hbb.out.size⟩
    · have hje : n.kids.take j = n.kids := List.take_of_length_le (by omega)
      rw [hje] at Hf
      go_wp2_with fail
      go_ret
      exact ⟨by rw [Hf.out]; rfl, Hbb.out⟩

set_option maxRecDepth 20000 in
set_option maxHeartbeats 8000000 in
theorem nm_c0 {lo b : Nat} {ρ : Nat → Ro} {M : List (RNd × Value)} {s : XR} {vn vx vt : Value} {line : Int} {l : List RDc} {la : Option Addr} {lc : Nat} (w : World) (see : See w lo b ρ M s vn vx vt line l (.slice la l.length lc)) {k : Nat} {n : RNd} {kv : Value} (hk : M[k]? = some (n, kv)) (_hm : M.length ≤ 2000) (_hkl : n.kids.length ≤ 2000) (hex : n.ex = none) (hov : n.over = []) (hnm : n.name ≠ []) (hkd : n.kind ≠ wVar ∧ n.kind ≠ wChan) (hmn : rmeans l n.name false ≠ -1) (R : Nat → Int) (K : ∀ kid ∈ n.kids, 0 ≤ R kid ∧ ∀ (w' : World) (lv : Value), See w' lo b ρ M s vn vx vt line l lv → Calls Tryz.prog 46 #[.pointer (some ⟨b, 0, none⟩), lv, .int .i64 kid] w' fun e w'' => e = .returned (.int .i64 (R kid)) ∧ Below w'.heap.size w' w'') :
    Calls Tryz.prog 46 #[.pointer (some ⟨b, 0, none⟩), .slice la l.length lc, .int .i64 k] w fun e w' => e = .returned (.int .i64 (firstN R n.kids)) ∧ Below w.heap.size w w' := by
  have c0 := see.tx.rd.c0
  obtain ⟨gn, capn, hvn, h1, h2, hc⟩ := node_at see.tx.nodes hk
  obtain ⟨ka, kc, hkv⟩ := ownsRow_len (see.tx.kids k n kv hk)
  have hlt : k < M.length := (List.getElem?_eq_some_iff.1 hk).1
  have Kd := hide (see.tx.kids k n kv hk)
  have d0 := hc 0 _ rfl; rw [Nat.add_zero] at d0; have d1 := hc 1 _ rfl; have d2 := hc 2 _ rfl; have d3 := hc 3 _ rfl; have d4 := hc 4 _ rfl; have d5 := hc 5 _ rfl; have d6 := hc 6 _ rfl
  rw [hvn] at c0
  subst hkv
  have Sd := hide see; have Hk := hide hk
  have Me := hide (fun t ch w h => rmeans_any l (.slice la l.length lc) t ch w h see.few)
  clear see hc hk hvn
  rw [hex] at d5
  replace d5 : w.cell? ⟨gn, k * 7 + 5, none⟩ = some (.int .i64 (-1)) := d5
  have eo : (n.over == []) = true := by rw [hov]; rfl
  have en : (n.name == []) = false := by rw [beq_eq_false_iff_ne]; exact hnm
  have Mn := hide (Me.out n.name false)
  generalize rmeans l n.name false = zn at *
  have ezn : (zn != -1) = true := by rw [bne_iff_ne]; exact hmn
  have kd1 : (n.kind == [118, 97, 114]) = false := by rw [beq_eq_false_iff_ne]; exact hkd.1
  have kd2 : (n.kind == [99, 104, 97, 110]) = false := by rw [beq_eq_false_iff_ne]; exact hkd.2
  clear hkd hov hnm hex Me
  have KK := hide K
  clear K
  generalize hml : M.length = m at *
  clear hml
  go_enter Tryz.func46, Tryz.ntmps46
  go_wp2_with (first | (go_at_call 70; refine (Mn.out _ ((Sd.out.below (below_alloc _ _))).dl).mono ?_; rintro e wx ⟨rfl, nd2, rfl⟩; clear Mn))
  have hB : Below w.heap.size w ((w.alloc (.cells #[.string ⟨n.kind.toArray⟩, .int .i64 n.line, .int .i64 n.inn, .string ⟨n.name.toArray⟩, .string ⟨n.over.toArray⟩, .int .i64 (-1), .slice ka n.kids.length kc] 145)).drewN nd2) := (below_drewN (below_alloc w _) nd2)
  have hQ : (((w.alloc (.cells #[.string ⟨n.kind.toArray⟩, .int .i64 n.line, .int .i64 n.inn, .string ⟨n.name.toArray⟩, .string ⟨n.over.toArray⟩, .int .i64 (-1), .slice ka n.kids.length kc] 145)).drewN nd2)).heap[w.heap.size]? = some (.cells #[.string ⟨n.kind.toArray⟩, .int .i64 n.line, .int .i64 n.inn, .string ⟨n.name.toArray⟩, .string ⟨n.over.toArray⟩, .int .i64 (-1), .slice ka n.kids.length kc] 145) := at_new w _
  generalize ((w.alloc (.cells #[.string ⟨n.kind.toArray⟩, .int .i64 n.line, .int .i64 n.inn, .string ⟨n.name.toArray⟩, .string ⟨n.over.toArray⟩, .int .i64 (-1), .slice ka n.kids.length kc] 145)).drewN nd2) = ws at hB hQ ⊢
  go_loopw [10] (fun i wr => ∃ j : Nat, j ≤ n.kids.length ∧ i = .int .i64 j ∧ firstN R (n.kids.take j) = 0 ∧ Below ws.heap.size ws wr) (fun i _ => n.kids.length - (intOf i).toNat)
  case atStart => exact ⟨0, Nat.zero_le _, rfl, rfl, Below.refl _ _⟩
  case round =>
    obtain ⟨j, hj, rfl, hf, hb⟩ := hrel
    have y6 : wr.cell? ⟨w.heap.size, 6, none⟩ = some (.slice ka n.kids.length kc) := cell_at (Below.at hb hQ (lt_of_at hQ)) 6
    have hbb := below_trans hB hb hB.size
    have Hf := hide hf; have Hbb := hide hbb
    by_cases hl2 : j < n.kids.length
    · have hrow := row_below hbb Kd.out
      obtain ⟨g, cap, hsh⟩ := shape_pos hrow (by omega)
      simp only [Value.slice.injEq, true_and] at hsh
      obtain ⟨rfl, rfl⟩ := hsh
      have kc5 := pile_top hrow (List.getElem?_eq_getElem hl2)
      obtain ⟨hr0, hcall⟩ := KK.out n.kids[j] (List.getElem_mem hl2)
      have C := hide (hcall wr (.slice la l.length lc) (Sd.out.below hbb))
      have Ht := hide (firstN_take R n.kids j hl2 hf)
      have Hs := hide (firstN_stop R n.kids j hl2 hf)
      clear hrow hcall hf
      generalize n.kids[j] = kid at *
      by_cases hz : R kid = 0
      · rw [hz] at C
        go_wp2_with (go_at_call 46; refine C.out.mono ?_; rintro e w6 ⟨rfl, b6⟩; have B6 := hide b6; clear b6)
        go_roundw
        case rel => exact ⟨j + 1, by omega, by go_num, by rw [Ht.out]; exact hz, below_trans hb B6.out hb.size⟩
        case measure => simp [intOf]; omega
      · have Hz := hide (Hs.out hz)
        have hp : 0 < R kid := by omega
        clear hz Ht Hs hr0
        generalize R kid = r at *
        go_wp2_with (go_at_call 46; refine C.out.mono ?_; rintro e w6 ⟨rfl, b6⟩; have B6 := hide b6; clear b6)
        go_ret
        exact ⟨by rw [Hz.out]; rfl, below_trans Hbb.out B6.out Hbb.out.size⟩
    · have hje : n.kids.take j = n.kids := List.take_of_length_le (by omega)
      rw [hje] at Hf
      go_wp2_with fail
      go_ret
      exact ⟨by rw [Hf.out]; rfl, Hbb.out⟩

set_option maxRecDepth 20000 in
set_option maxHeartbeats 8000000 in
theorem nm_c1 {lo b : Nat} {ρ : Nat → Ro} {M : List (RNd × Value)} {s : XR} {vn vx vt : Value} {line : Int} {l : List RDc} {la : Option Addr} {lc : Nat} (w : World) (see : See w lo b ρ M s vn vx vt line l (.slice la l.length lc)) {k : Nat} {n : RNd} {kv : Value} (hk : M[k]? = some (n, kv)) (_hm : M.length ≤ 2000) (_hkl : n.kids.length ≤ 2000) {pe : PE} {ei : Nat} (hex : n.ex = some ei) (rep : RepX s.xs ei pe) (hxl : s.xs.length ≤ 500000) (hpe : peOk l pe = true) (hov : n.over = []) (hnm : n.name ≠ []) (hkd : n.kind ≠ wVar ∧ n.kind ≠ wChan) (hmn : rmeans l n.name false ≠ -1) (R : Nat → Int) (K : ∀ kid ∈ n.kids, 0 ≤ R kid ∧ ∀ (w' : World) (lv : Value), See w' lo b ρ M s vn vx vt line l lv → Calls Tryz.prog 46 #[.pointer (some ⟨b, 0, none⟩), lv, .int .i64 kid] w' fun e w'' => e = .returned (.int .i64 (R kid)) ∧ Below w'.heap.size w' w'') :
    Calls Tryz.prog 46 #[.pointer (some ⟨b, 0, none⟩), .slice la l.length lc, .int .i64 k] w fun e w' => e = .returned (.int .i64 (firstN R n.kids)) ∧ Below w.heap.size w w' := by
  have c0 := see.tx.rd.c0
  obtain ⟨gn, capn, hvn, h1, h2, hc⟩ := node_at see.tx.nodes hk
  obtain ⟨ka, kc, hkv⟩ := ownsRow_len (see.tx.kids k n kv hk)
  have hlt : k < M.length := (List.getElem?_eq_some_iff.1 hk).1
  have Kd := hide (see.tx.kids k n kv hk)
  have d0 := hc 0 _ rfl; rw [Nat.add_zero] at d0; have d1 := hc 1 _ rfl; have d2 := hc 2 _ rfl; have d3 := hc 3 _ rfl; have d4 := hc 4 _ rfl; have d5 := hc 5 _ rfl; have d6 := hc 6 _ rfl
  rw [hvn] at c0
  subst hkv
  have Sd := hide see; have Hk := hide hk
  have Me := hide (fun t ch w h => rmeans_any l (.slice la l.length lc) t ch w h see.few)
  clear see hc hk hvn
  rw [hex] at d5
  replace d5 : w.cell? ⟨gn, k * 7 + 5, none⟩ = some (.int .i64 (ei : Int)) := d5
  have Ex := hide (fun w' h => exprMeans_any (la := la) (lc := lc) (l := l) (lo := lo) (b := b) (ρ := ρ) (M := M) (vn := vn) (vx := vx) (vt := vt) (line := line) hxl rep w' h)
  rw [hpe] at Ex
  have eo : (n.over == []) = true := by rw [hov]; rfl
  have en : (n.name == []) = false := by rw [beq_eq_false_iff_ne]; exact hnm
  have Mn := hide (Me.out n.name false)
  generalize rmeans l n.name false = zn at *
  have ezn : (zn != -1) = true := by rw [bne_iff_ne]; exact hmn
  have kd1 : (n.kind == [118, 97, 114]) = false := by rw [beq_eq_false_iff_ne]; exact hkd.1
  have kd2 : (n.kind == [99, 104, 97, 110]) = false := by rw [beq_eq_false_iff_ne]; exact hkd.2
  clear hkd hov hnm hex Me
  have KK := hide K
  clear K
  generalize hml : M.length = m at *
  clear hml
  go_enter Tryz.func46, Tryz.ntmps46
  go_wp2_with (first | (go_at_call 69; refine (Ex.out _ (Sd.out.below (below_alloc _ _))).mono ?_; rintro e w1 ⟨rfl, b1⟩; have q1 := Below.at b1 (at_new w _) (by simp); have x10 := cell_at q1 0; have x11 := cell_at q1 1; have x13 := cell_at q1 3; have x14 := cell_at q1 4; have x15 := cell_at q1 5; have x16 := cell_at q1 6; have B1 := hide (below_trans (below_alloc w _) b1 (by simp)); have Q1 := hide q1; clear b1 q1 Ex) | (go_at_call 70; refine (Mn.out _ ((Sd.out.below B1.out)).dl).mono ?_; rintro e wx ⟨rfl, nd2, rfl⟩; clear Mn))
  have hB : Below w.heap.size w (w1.drewN nd2) := (below_drewN B1.out nd2)
  have hQ : ((w1.drewN nd2)).heap[w.heap.size]? = some (.cells #[.string ⟨n.kind.toArray⟩, .int .i64 n.line, .int .i64 n.inn, .string ⟨n.name.toArray⟩, .string ⟨n.over.toArray⟩, .int .i64 (ei : Int), .slice ka n.kids.length kc] 145) := Q1.out
  generalize (w1.drewN nd2) = ws at hB hQ ⊢
  go_loopw [10] (fun i wr => ∃ j : Nat, j ≤ n.kids.length ∧ i = .int .i64 j ∧ firstN R (n.kids.take j) = 0 ∧ Below ws.heap.size ws wr) (fun i _ => n.kids.length - (intOf i).toNat)
  case atStart => exact ⟨0, Nat.zero_le _, rfl, rfl, Below.refl _ _⟩
  case round =>
    obtain ⟨j, hj, rfl, hf, hb⟩ := hrel
    have y6 : wr.cell? ⟨w.heap.size, 6, none⟩ = some (.slice ka n.kids.length kc) := cell_at (Below.at hb hQ (lt_of_at hQ)) 6
    have hbb := below_trans hB hb hB.size
    have Hf := hide hf; have Hbb := hide hbb
    by_cases hl2 : j < n.kids.length
    · have hrow := row_below hbb Kd.out
      obtain ⟨g, cap, hsh⟩ := shape_pos hrow (by omega)
      simp only [Value.slice.injEq, true_and] at hsh
      obtain ⟨rfl, rfl⟩ := hsh
      have kc5 := pile_top hrow (List.getElem?_eq_getElem hl2)
      obtain ⟨hr0, hcall⟩ := KK.out n.kids[j] (List.getElem_mem hl2)
      have C := hide (hcall wr (.slice la l.length lc) (Sd.out.below hbb))
      have Ht := hide (firstN_take R n.kids j hl2 hf)
      have Hs := hide (firstN_stop R n.kids j hl2 hf)
      clear hrow hcall hf
      generalize n.kids[j] = kid at *
      by_cases hz : R kid = 0
      · rw [hz] at C
        go_wp2_with (go_at_call 46; refine C.out.mono ?_; rintro e w6 ⟨rfl, b6⟩; have B6 := hide b6; clear b6)
        go_roundw
        case rel => exact ⟨j + 1, by omega, by go_num, by rw [Ht.out]; exact hz, below_trans hb B6.out hb.size⟩
        case measure => simp [intOf]; omega
      · have Hz := hide (Hs.out hz)
        have hp : 0 < R kid := by omega
        clear hz Ht Hs hr0
        generalize R kid = r at *
        go_wp2_with (go_at_call 46; refine C.out.mono ?_; rintro e w6 ⟨rfl, b6⟩; have B6 := hide b6; clear b6)
        go_ret
        exact ⟨by rw [Hz.out]; rfl, below_trans Hbb.out B6.out Hbb.out.size⟩
    · have hje : n.kids.take j = n.kids := List.take_of_length_le (by omega)
      rw [hje] at Hf
      go_wp2_with fail
      go_ret
      exact ⟨by rw [Hf.out]; rfl, Hbb.out⟩

set_option maxRecDepth 20000 in
set_option maxHeartbeats 8000000 in
theorem nm_d0 {lo b : Nat} {ρ : Nat → Ro} {M : List (RNd × Value)} {s : XR} {vn vx vt : Value} {line : Int} {l : List RDc} {la : Option Addr} {lc : Nat} (w : World) (see : See w lo b ρ M s vn vx vt line l (.slice la l.length lc)) {k : Nat} {n : RNd} {kv : Value} (hk : M[k]? = some (n, kv)) (_hm : M.length ≤ 2000) (_hkl : n.kids.length ≤ 2000) (hex : n.ex = none) (hov : n.over ≠ []) (hmo : rmeans l n.over true ≠ -1) (hnm : n.name = []) (hkd : n.kind ≠ wVar ∧ n.kind ≠ wChan) (R : Nat → Int) (K : ∀ kid ∈ n.kids, 0 ≤ R kid ∧ ∀ (w' : World) (lv : Value), See w' lo b ρ M s vn vx vt line l lv → Calls Tryz.prog 46 #[.pointer (some ⟨b, 0, none⟩), lv, .int .i64 kid] w' fun e w'' => e = .returned (.int .i64 (R kid)) ∧ Below w'.heap.size w' w'') :
    Calls Tryz.prog 46 #[.pointer (some ⟨b, 0, none⟩), .slice la l.length lc, .int .i64 k] w fun e w' => e = .returned (.int .i64 (firstN R n.kids)) ∧ Below w.heap.size w w' := by
  have c0 := see.tx.rd.c0
  obtain ⟨gn, capn, hvn, h1, h2, hc⟩ := node_at see.tx.nodes hk
  obtain ⟨ka, kc, hkv⟩ := ownsRow_len (see.tx.kids k n kv hk)
  have hlt : k < M.length := (List.getElem?_eq_some_iff.1 hk).1
  have Kd := hide (see.tx.kids k n kv hk)
  have d0 := hc 0 _ rfl; rw [Nat.add_zero] at d0; have d1 := hc 1 _ rfl; have d2 := hc 2 _ rfl; have d3 := hc 3 _ rfl; have d4 := hc 4 _ rfl; have d5 := hc 5 _ rfl; have d6 := hc 6 _ rfl
  rw [hvn] at c0
  subst hkv
  have Sd := hide see; have Hk := hide hk
  have Me := hide (fun t ch w h => rmeans_any l (.slice la l.length lc) t ch w h see.few)
  clear see hc hk hvn
  rw [hex] at d5
  replace d5 : w.cell? ⟨gn, k * 7 + 5, none⟩ = some (.int .i64 (-1)) := d5
  have eo : (n.over == []) = false := by rw [beq_eq_false_iff_ne]; exact hov
  have en : (n.name == []) = true := by rw [hnm]; rfl
  have Mo := hide (Me.out n.over true)
  generalize rmeans l n.over true = zo at *
  have ezo : (zo != -1) = true := by rw [bne_iff_ne]; exact hmo
  have kd1 : (n.kind == [118, 97, 114]) = false := by rw [beq_eq_false_iff_ne]; exact hkd.1
  have kd2 : (n.kind == [99, 104, 97, 110]) = false := by rw [beq_eq_false_iff_ne]; exact hkd.2
  clear hkd hov hnm hex Me
  have KK := hide K
  clear K
  generalize hml : M.length = m at *
  clear hml
  go_enter Tryz.func46, Tryz.ntmps46
  go_wp2_with (first | (go_at_call 70; refine (Mo.out _ (Sd.out.below (below_alloc _ _)).dl).mono ?_; rintro e wx ⟨rfl, nd1, rfl⟩; clear Mo))
  have hB : Below w.heap.size w ((w.alloc (.cells #[.string ⟨n.kind.toArray⟩, .int .i64 n.line, .int .i64 n.inn, .string ⟨n.name.toArray⟩, .string ⟨n.over.toArray⟩, .int .i64 (-1), .slice ka n.kids.length kc] 145)).drewN nd1) := (below_drewN (below_alloc w _) nd1)
  have hQ : (((w.alloc (.cells #[.string ⟨n.kind.toArray⟩, .int .i64 n.line, .int .i64 n.inn, .string ⟨n.name.toArray⟩, .string ⟨n.over.toArray⟩, .int .i64 (-1), .slice ka n.kids.length kc] 145)).drewN nd1)).heap[w.heap.size]? = some (.cells #[.string ⟨n.kind.toArray⟩, .int .i64 n.line, .int .i64 n.inn, .string ⟨n.name.toArray⟩, .string ⟨n.over.toArray⟩, .int .i64 (-1), .slice ka n.kids.length kc] 145) := at_new w _
  generalize ((w.alloc (.cells #[.string ⟨n.kind.toArray⟩, .int .i64 n.line, .int .i64 n.inn, .string ⟨n.name.toArray⟩, .string ⟨n.over.toArray⟩, .int .i64 (-1), .slice ka n.kids.length kc] 145)).drewN nd1) = ws at hB hQ ⊢
  go_loopw [10] (fun i wr => ∃ j : Nat, j ≤ n.kids.length ∧ i = .int .i64 j ∧ firstN R (n.kids.take j) = 0 ∧ Below ws.heap.size ws wr) (fun i _ => n.kids.length - (intOf i).toNat)
  case atStart => exact ⟨0, Nat.zero_le _, rfl, rfl, Below.refl _ _⟩
  case round =>
    obtain ⟨j, hj, rfl, hf, hb⟩ := hrel
    have y6 : wr.cell? ⟨w.heap.size, 6, none⟩ = some (.slice ka n.kids.length kc) := cell_at (Below.at hb hQ (lt_of_at hQ)) 6
    have hbb := below_trans hB hb hB.size
    have Hf := hide hf; have Hbb := hide hbb
    by_cases hl2 : j < n.kids.length
    · have hrow := row_below hbb Kd.out
      obtain ⟨g, cap, hsh⟩ := shape_pos hrow (by omega)
      simp only [Value.slice.injEq, true_and] at hsh
      obtain ⟨rfl, rfl⟩ := hsh
      have kc5 := pile_top hrow (List.getElem?_eq_getElem hl2)
      obtain ⟨hr0, hcall⟩ := KK.out n.kids[j] (List.getElem_mem hl2)
      have C := hide (hcall wr (.slice la l.length lc) (Sd.out.below hbb))
      have Ht := hide (firstN_take R n.kids j hl2 hf)
      have Hs := hide (firstN_stop R n.kids j hl2 hf)
      clear hrow hcall hf
      generalize n.kids[j] = kid at *
      by_cases hz : R kid = 0
      · rw [hz] at C
        go_wp2_with (go_at_call 46; refine C.out.mono ?_; rintro e w6 ⟨rfl, b6⟩; have B6 := hide b6; clear b6)
        go_roundw
        case rel => exact ⟨j + 1, by omega, by go_num, by rw [Ht.out]; exact hz, below_trans hb B6.out hb.size⟩
        case measure => simp [intOf]; omega
      · have Hz := hide (Hs.out hz)
        have hp : 0 < R kid := by omega
        clear hz Ht Hs hr0
        generalize R kid = r at *
        go_wp2_with (go_at_call 46; refine C.out.mono ?_; rintro e w6 ⟨rfl, b6⟩; have B6 := hide b6; clear b6)
        go_ret
        exact ⟨by rw [Hz.out]; rfl, below_trans Hbb.out B6.out Hbb.out.size⟩
    · have hje : n.kids.take j = n.kids := List.take_of_length_le (by omega)
      rw [hje] at Hf
      go_wp2_with fail
      go_ret
      exact ⟨by rw [Hf.out]; rfl, Hbb.out⟩

set_option maxRecDepth 20000 in
set_option maxHeartbeats 8000000 in
theorem nm_d1 {lo b : Nat} {ρ : Nat → Ro} {M : List (RNd × Value)} {s : XR} {vn vx vt : Value} {line : Int} {l : List RDc} {la : Option Addr} {lc : Nat} (w : World) (see : See w lo b ρ M s vn vx vt line l (.slice la l.length lc)) {k : Nat} {n : RNd} {kv : Value} (hk : M[k]? = some (n, kv)) (_hm : M.length ≤ 2000) (_hkl : n.kids.length ≤ 2000) {pe : PE} {ei : Nat} (hex : n.ex = some ei) (rep : RepX s.xs ei pe) (hxl : s.xs.length ≤ 500000) (hpe : peOk l pe = true) (hov : n.over ≠ []) (hmo : rmeans l n.over true ≠ -1) (hnm : n.name = []) (hkd : n.kind ≠ wVar ∧ n.kind ≠ wChan) (R : Nat → Int) (K : ∀ kid ∈ n.kids, 0 ≤ R kid ∧ ∀ (w' : World) (lv : Value), See w' lo b ρ M s vn vx vt line l lv → Calls Tryz.prog 46 #[.pointer (some ⟨b, 0, none⟩), lv, .int .i64 kid] w' fun e w'' => e = .returned (.int .i64 (R kid)) ∧ Below w'.heap.size w' w'') :
    Calls Tryz.prog 46 #[.pointer (some ⟨b, 0, none⟩), .slice la l.length lc, .int .i64 k] w fun e w' => e = .returned (.int .i64 (firstN R n.kids)) ∧ Below w.heap.size w w' := by
  have c0 := see.tx.rd.c0
  obtain ⟨gn, capn, hvn, h1, h2, hc⟩ := node_at see.tx.nodes hk
  obtain ⟨ka, kc, hkv⟩ := ownsRow_len (see.tx.kids k n kv hk)
  have hlt : k < M.length := (List.getElem?_eq_some_iff.1 hk).1
  have Kd := hide (see.tx.kids k n kv hk)
  have d0 := hc 0 _ rfl; rw [Nat.add_zero] at d0; have d1 := hc 1 _ rfl; have d2 := hc 2 _ rfl; have d3 := hc 3 _ rfl; have d4 := hc 4 _ rfl; have d5 := hc 5 _ rfl; have d6 := hc 6 _ rfl
  rw [hvn] at c0
  subst hkv
  have Sd := hide see; have Hk := hide hk
  have Me := hide (fun t ch w h => rmeans_any l (.slice la l.length lc) t ch w h see.few)
  clear see hc hk hvn
  rw [hex] at d5
  replace d5 : w.cell? ⟨gn, k * 7 + 5, none⟩ = some (.int .i64 (ei : Int)) := d5
  have Ex := hide (fun w' h => exprMeans_any (la := la) (lc := lc) (l := l) (lo := lo) (b := b) (ρ := ρ) (M := M) (vn := vn) (vx := vx) (vt := vt) (line := line) hxl rep w' h)
  rw [hpe] at Ex
  have eo : (n.over == []) = false := by rw [beq_eq_false_iff_ne]; exact hov
  have en : (n.name == []) = true := by rw [hnm]; rfl
  have Mo := hide (Me.out n.over true)
  generalize rmeans l n.over true = zo at *
  have ezo : (zo != -1) = true := by rw [bne_iff_ne]; exact hmo
  have kd1 : (n.kind == [118, 97, 114]) = false := by rw [beq_eq_false_iff_ne]; exact hkd.1
  have kd2 : (n.kind == [99, 104, 97, 110]) = false := by rw [beq_eq_false_iff_ne]; exact hkd.2
  clear hkd hov hnm hex Me
  have KK := hide K
  clear K
  generalize hml : M.length = m at *
  clear hml
  go_enter Tryz.func46, Tryz.ntmps46
  go_wp2_with (first | (go_at_call 69; refine (Ex.out _ (Sd.out.below (below_alloc _ _))).mono ?_; rintro e w1 ⟨rfl, b1⟩; have q1 := Below.at b1 (at_new w _) (by simp); have x10 := cell_at q1 0; have x11 := cell_at q1 1; have x13 := cell_at q1 3; have x14 := cell_at q1 4; have x15 := cell_at q1 5; have x16 := cell_at q1 6; have B1 := hide (below_trans (below_alloc w _) b1 (by simp)); have Q1 := hide q1; clear b1 q1 Ex) | (go_at_call 70; refine (Mo.out _ (Sd.out.below B1.out).dl).mono ?_; rintro e wx ⟨rfl, nd1, rfl⟩; clear Mo))
  have hB : Below w.heap.size w (w1.drewN nd1) := (below_drewN B1.out nd1)
  have hQ : ((w1.drewN nd1)).heap[w.heap.size]? = some (.cells #[.string ⟨n.kind.toArray⟩, .int .i64 n.line, .int .i64 n.inn, .string ⟨n.name.toArray⟩, .string ⟨n.over.toArray⟩, .int .i64 (ei : Int), .slice ka n.kids.length kc] 145) := Q1.out
  generalize (w1.drewN nd1) = ws at hB hQ ⊢
  go_loopw [10] (fun i wr => ∃ j : Nat, j ≤ n.kids.length ∧ i = .int .i64 j ∧ firstN R (n.kids.take j) = 0 ∧ Below ws.heap.size ws wr) (fun i _ => n.kids.length - (intOf i).toNat)
  case atStart => exact ⟨0, Nat.zero_le _, rfl, rfl, Below.refl _ _⟩
  case round =>
    obtain ⟨j, hj, rfl, hf, hb⟩ := hrel
    have y6 : wr.cell? ⟨w.heap.size, 6, none⟩ = some (.slice ka n.kids.length kc) := cell_at (Below.at hb hQ (lt_of_at hQ)) 6
    have hbb := below_trans hB hb hB.size
    have Hf := hide hf; have Hbb := hide hbb
    by_cases hl2 : j < n.kids.length
    · have hrow := row_below hbb Kd.out
      obtain ⟨g, cap, hsh⟩ := shape_pos hrow (by omega)
      simp only [Value.slice.injEq, true_and] at hsh
      obtain ⟨rfl, rfl⟩ := hsh
      have kc5 := pile_top hrow (List.getElem?_eq_getElem hl2)
      obtain ⟨hr0, hcall⟩ := KK.out n.kids[j] (List.getElem_mem hl2)
      have C := hide (hcall wr (.slice la l.length lc) (Sd.out.below hbb))
      have Ht := hide (firstN_take R n.kids j hl2 hf)
      have Hs := hide (firstN_stop R n.kids j hl2 hf)
      clear hrow hcall hf
      generalize n.kids[j] = kid at *
      by_cases hz : R kid = 0
      · rw [hz] at C
        go_wp2_with (go_at_call 46; refine C.out.mono ?_; rintro e w6 ⟨rfl, b6⟩; have B6 := hide b6; clear b6)
        go_roundw
        case rel => exact ⟨j + 1, by omega, by go_num, by rw [Ht.out]; exact hz, below_trans hb B6.out hb.size⟩
        case measure => simp [intOf]; omega
      · have Hz := hide (Hs.out hz)
        have hp : 0 < R kid := by omega
        clear hz Ht Hs hr0
        generalize R kid = r at *
        go_wp2_with (go_at_call 46; refine C.out.mono ?_; rintro e w6 ⟨rfl, b6⟩; have B6 := hide b6; clear b6)
        go_ret
        exact ⟨by rw [Hz.out]; rfl, below_trans Hbb.out B6.out Hbb.out.size⟩
    · have hje : n.kids.take j = n.kids := List.take_of_length_le (by omega)
      rw [hje] at Hf
      go_wp2_with fail
      go_ret
      exact ⟨by rw [Hf.out]; rfl, Hbb.out⟩

set_option maxRecDepth 20000 in
set_option maxHeartbeats 8000000 in
theorem nm_e0 {lo b : Nat} {ρ : Nat → Ro} {M : List (RNd × Value)} {s : XR} {vn vx vt : Value} {line : Int} {l : List RDc} {la : Option Addr} {lc : Nat} (w : World) (see : See w lo b ρ M s vn vx vt line l (.slice la l.length lc)) {k : Nat} {n : RNd} {kv : Value} (hk : M[k]? = some (n, kv)) (_hm : M.length ≤ 2000) (_hkl : n.kids.length ≤ 2000) (hex : n.ex = none) (hov : n.over ≠ []) (hmo : rmeans l n.over true ≠ -1) (hnm : n.name ≠ []) (hkd : n.kind ≠ wVar ∧ n.kind ≠ wChan) (hmn : rmeans l n.name false ≠ -1) (R : Nat → Int) (K : ∀ kid ∈ n.kids, 0 ≤ R kid ∧ ∀ (w' : World) (lv : Value), See w' lo b ρ M s vn vx vt line l lv → Calls Tryz.prog 46 #[.pointer (some ⟨b, 0, none⟩), lv, .int .i64 kid] w' fun e w'' => e = .returned (.int .i64 (R kid)) ∧ Below w'.heap.size w' w'') :
    Calls Tryz.prog 46 #[.pointer (some ⟨b, 0, none⟩), .slice la l.length lc, .int .i64 k] w fun e w' => e = .returned (.int .i64 (firstN R n.kids)) ∧ Below w.heap.size w w' := by
  have c0 := see.tx.rd.c0
  obtain ⟨gn, capn, hvn, h1, h2, hc⟩ := node_at see.tx.nodes hk
  obtain ⟨ka, kc, hkv⟩ := ownsRow_len (see.tx.kids k n kv hk)
  have hlt : k < M.length := (List.getElem?_eq_some_iff.1 hk).1
  have Kd := hide (see.tx.kids k n kv hk)
  have d0 := hc 0 _ rfl; rw [Nat.add_zero] at d0; have d1 := hc 1 _ rfl; have d2 := hc 2 _ rfl; have d3 := hc 3 _ rfl; have d4 := hc 4 _ rfl; have d5 := hc 5 _ rfl; have d6 := hc 6 _ rfl
  rw [hvn] at c0
  subst hkv
  have Sd := hide see; have Hk := hide hk
  have Me := hide (fun t ch w h => rmeans_any l (.slice la l.length lc) t ch w h see.few)
  clear see hc hk hvn
  rw [hex] at d5
  replace d5 : w.cell? ⟨gn, k * 7 + 5, none⟩ = some (.int .i64 (-1)) := d5
  have eo : (n.over == []) = false := by rw [beq_eq_false_iff_ne]; exact hov
  have en : (n.name == []) = false := by rw [beq_eq_false_iff_ne]; exact hnm
  have Mo := hide (Me.out n.over true)
  generalize rmeans l n.over true = zo at *
  have ezo : (zo != -1) = true := by rw [bne_iff_ne]; exact hmo
  have Mn := hide (Me.out n.name false)
  generalize rmeans l n.name false = zn at *
  have ezn : (zn != -1) = true := by rw [bne_iff_ne]; exact hmn
  have kd1 : (n.kind == [118, 97, 114]) = false := by rw [beq_eq_false_iff_ne]; exact hkd.1
  have kd2 : (n.kind == [99, 104, 97, 110]) = false := by rw [beq_eq_false_iff_ne]; exact hkd.2
  clear hkd hov hnm hex Me
  have KK := hide K
  clear K
  generalize hml : M.length = m at *
  clear hml
  go_enter Tryz.func46, Tryz.ntmps46
  go_wp2_with (first | (go_at_call 70; refine (Mo.out _ (Sd.out.below (below_alloc _ _)).dl).mono ?_; rintro e wx ⟨rfl, nd1, rfl⟩; clear Mo) | (go_at_call 70; refine (Mn.out _ ((Sd.out.below (below_alloc _ _)).below (below_drewN (Below.refl _ _) nd1)).dl).mono ?_; rintro e wx ⟨rfl, nd2, rfl⟩; clear Mn))
  have hB : Below w.heap.size w ((w.alloc (.cells #[.string ⟨n.kind.toArray⟩, .int .i64 n.line, .int .i64 n.inn, .string ⟨n.name.toArray⟩, .string ⟨n.over.toArray⟩, .int .i64 (-1), .slice ka n.kids.length kc] 145)).drewN (nd1 + nd2)) := (below_drewN (below_alloc w _) (nd1 + nd2))
  have hQ : (((w.alloc (.cells #[.string ⟨n.kind.toArray⟩, .int .i64 n.line, .int .i64 n.inn, .string ⟨n.name.toArray⟩, .string ⟨n.over.toArray⟩, .int .i64 (-1), .slice ka n.kids.length kc] 145)).drewN (nd1 + nd2))).heap[w.heap.size]? = some (.cells #[.string ⟨n.kind.toArray⟩, .int .i64 n.line, .int .i64 n.inn, .string ⟨n.name.toArray⟩, .string ⟨n.over.toArray⟩, .int .i64 (-1), .slice ka n.kids.length kc] 145) := at_new w _
  generalize ((w.alloc (.cells #[.string ⟨n.kind.toArray⟩, .int .i64 n.line, .int .i64 n.inn, .string ⟨n.name.toArray⟩, .string ⟨n.over.toArray⟩, .int .i64 (-1), .slice ka n.kids.length kc] 145)).drewN (nd1 + nd2)) = ws at hB hQ ⊢
  go_loopw [10] (fun i wr => ∃ j : Nat, j ≤ n.kids.length ∧ i = .int .i64 j ∧ firstN R (n.kids.take j) = 0 ∧ Below ws.heap.size ws wr) (fun i _ => n.kids.length - (intOf i).toNat)
  case atStart => exact ⟨0, Nat.zero_le _, rfl, rfl, Below.refl _ _⟩
  case round =>
    obtain ⟨j, hj, rfl, hf, hb⟩ := hrel
    have y6 : wr.cell? ⟨w.heap.size, 6, none⟩ = some (.slice ka n.kids.length kc) := cell_at (Below.at hb hQ (lt_of_at hQ)) 6
    have hbb := below_trans hB hb hB.size
    have Hf := hide hf; have Hbb := hide hbb
    by_cases hl2 : j < n.kids.length
    · have hrow := row_below hbb Kd.out
      obtain ⟨g, cap, hsh⟩ := shape_pos hrow (by omega)
      simp only [Value.slice.injEq, true_and] at hsh
      obtain ⟨rfl, rfl⟩ := hsh
      have kc5 := pile_top hrow (List.getElem?_eq_getElem hl2)
      obtain ⟨hr0, hcall⟩ := KK.out n.kids[j] (List.getElem_mem hl2)
      have C := hide (hcall wr (.slice la l.length lc) (Sd.out.below hbb))
      have Ht := hide (firstN_take R n.kids j hl2 hf)
      have Hs := hide (firstN_stop R n.kids j hl2 hf)
      clear hrow hcall hf
      generalize n.kids[j] = kid at *
      by_cases hz : R kid = 0
      · rw [hz] at C
        go_wp2_with (go_at_call 46; refine C.out.mono ?_; rintro e w6 ⟨rfl, b6⟩; have B6 := hide b6; clear b6)
        go_roundw
        case rel => exact ⟨j + 1, by omega, by go_num, by rw [Ht.out]; exact hz, below_trans hb B6.out hb.size⟩
        case measure => simp [intOf]; omega
      · have Hz := hide (Hs.out hz)
        have hp : 0 < R kid := by omega
        clear hz Ht Hs hr0
        generalize R kid = r at *
        go_wp2_with (go_at_call 46; refine C.out.mono ?_; rintro e w6 ⟨rfl, b6⟩; have B6 := hide b6; clear b6)
        go_ret
        exact ⟨by rw [Hz.out]; rfl, below_trans Hbb.out B6.out Hbb.out.size⟩
    · have hje : n.kids.take j = n.kids := List.take_of_length_le (by omega)
      rw [hje] at Hf
      go_wp2_with fail
      go_ret
      exact ⟨by rw [Hf.out]; rfl, Hbb.out⟩

set_option maxRecDepth 20000 in
set_option maxHeartbeats 8000000 in
theorem nm_e1 {lo b : Nat} {ρ : Nat → Ro} {M : List (RNd × Value)} {s : XR} {vn vx vt : Value} {line : Int} {l : List RDc} {la : Option Addr} {lc : Nat} (w : World) (see : See w lo b ρ M s vn vx vt line l (.slice la l.length lc)) {k : Nat} {n : RNd} {kv : Value} (hk : M[k]? = some (n, kv)) (_hm : M.length ≤ 2000) (_hkl : n.kids.length ≤ 2000) {pe : PE} {ei : Nat} (hex : n.ex = some ei) (rep : RepX s.xs ei pe) (hxl : s.xs.length ≤ 500000) (hpe : peOk l pe = true) (hov : n.over ≠ []) (hmo : rmeans l n.over true ≠ -1) (hnm : n.name ≠ []) (hkd : n.kind ≠ wVar ∧ n.kind ≠ wChan) (hmn : rmeans l n.name false ≠ -1) (R : Nat → Int) (K : ∀ kid ∈ n.kids, 0 ≤ R kid ∧ ∀ (w' : World) (lv : Value), See w' lo b ρ M s vn vx vt line l lv → Calls Tryz.prog 46 #[.pointer (some ⟨b, 0, none⟩), lv, .int .i64 kid] w' fun e w'' => e = .returned (.int .i64 (R kid)) ∧ Below w'.heap.size w' w'') :
    Calls Tryz.prog 46 #[.pointer (some ⟨b, 0, none⟩), .slice la l.length lc, .int .i64 k] w fun e w' => e = .returned (.int .i64 (firstN R n.kids)) ∧ Below w.heap.size w w' := by
  have c0 := see.tx.rd.c0
  obtain ⟨gn, capn, hvn, h1, h2, hc⟩ := node_at see.tx.nodes hk
  obtain ⟨ka, kc, hkv⟩ := ownsRow_len (see.tx.kids k n kv hk)
  have hlt : k < M.length := (List.getElem?_eq_some_iff.1 hk).1
  have Kd := hide (see.tx.kids k n kv hk)
  have d0 := hc 0 _ rfl; rw [Nat.add_zero] at d0; have d1 := hc 1 _ rfl; have d2 := hc 2 _ rfl; have d3 := hc 3 _ rfl; have d4 := hc 4 _ rfl; have d5 := hc 5 _ rfl; have d6 := hc 6 _ rfl
  rw [hvn] at c0
  subst hkv
  have Sd := hide see; have Hk := hide hk
  have Me := hide (fun t ch w h => rmeans_any l (.slice la l.length lc) t ch w h see.few)
  clear see hc hk hvn
  rw [hex] at d5
  replace d5 : w.cell? ⟨gn, k * 7 + 5, none⟩ = some (.int .i64 (ei : Int)) := d5
  have Ex := hide (fun w' h => exprMeans_any (la := la) (lc := lc) (l := l) (lo := lo) (b := b) (ρ := ρ) (M := M) (vn := vn) (vx := vx) (vt := vt) (line := line) hxl rep w' h)
  rw [hpe] at Ex
  have eo : (n.over == []) = false := by rw [beq_eq_false_iff_ne]; exact hov
  have en : (n.name == []) = false := by rw [beq_eq_false_iff_ne]; exact hnm
  have Mo := hide (Me.out n.over true)
  generalize rmeans l n.over true = zo at *
  have ezo : (zo != -1) = true := by rw [bne_iff_ne]; exact hmo
  have Mn := hide (Me.out n.name false)
  generalize rmeans l n.name false = zn at *
  have ezn : (zn != -1) = true := by rw [bne_iff_ne]; exact hmn
  have kd1 : (n.kind == [118, 97, 114]) = false := by rw [beq_eq_false_iff_ne]; exact hkd.1
  have kd2 : (n.kind == [99, 104, 97, 110]) = false := by rw [beq_eq_false_iff_ne]; exact hkd.2
  clear hkd hov hnm hex Me
  have KK := hide K
  clear K
  generalize hml : M.length = m at *
  clear hml
  go_enter Tryz.func46, Tryz.ntmps46
  go_wp2_with (first | (go_at_call 69; refine (Ex.out _ (Sd.out.below (below_alloc _ _))).mono ?_; rintro e w1 ⟨rfl, b1⟩; have q1 := Below.at b1 (at_new w _) (by simp); have x10 := cell_at q1 0; have x11 := cell_at q1 1; have x13 := cell_at q1 3; have x14 := cell_at q1 4; have x15 := cell_at q1 5; have x16 := cell_at q1 6; have B1 := hide (below_trans (below_alloc w _) b1 (by simp)); have Q1 := hide q1; clear b1 q1 Ex) | (go_at_call 70; refine (Mo.out _ (Sd.out.below B1.out).dl).mono ?_; rintro e wx ⟨rfl, nd1, rfl⟩; clear Mo) | (go_at_call 70; refine (Mn.out _ ((Sd.out.below B1.out).below (below_drewN (Below.refl _ _) nd1)).dl).mono ?_; rintro e wx ⟨rfl, nd2, rfl⟩; clear Mn))
  have hB : Below w.heap.size w (w1.drewN (nd1 + nd2)) := (below_drewN B1.out (nd1 + nd2))
  have hQ : ((w1.drewN (nd1 + nd2))).heap[w.heap.size]? = some (.cells #[.string ⟨n.kind.toArray⟩, .int .i64 n.line, .int .i64 n.inn, .string ⟨n.name.toArray⟩, .string ⟨n.over.toArray⟩, .int .i64 (ei : Int), .slice ka n.kids.length kc] 145) := Q1.out
  generalize (w1.drewN (nd1 + nd2)) = ws at hB hQ ⊢
  go_loopw [10] (fun i wr => ∃ j : Nat, j ≤ n.kids.length ∧ i = .int .i64 j ∧ firstN R (n.kids.take j) = 0 ∧ Below ws.heap.size ws wr) (fun i _ => n.kids.length - (intOf i).toNat)
  case atStart => exact ⟨0, Nat.zero_le _, rfl, rfl, Below.refl _ _⟩
  case round =>
    obtain ⟨j, hj, rfl, hf, hb⟩ := hrel
    have y6 : wr.cell? ⟨w.heap.size, 6, none⟩ = some (.slice ka n.kids.length kc) := cell_at (Below.at hb hQ (lt_of_at hQ)) 6
    have hbb := below_trans hB hb hB.size
    have Hf := hide hf; have Hbb := hide hbb
    by_cases hl2 : j < n.kids.length
    · have hrow := row_below hbb Kd.out
      obtain ⟨g, cap, hsh⟩ := shape_pos hrow (by omega)
      simp only [Value.slice.injEq, true_and] at hsh
      obtain ⟨rfl, rfl⟩ := hsh
      have kc5 := pile_top hrow (List.getElem?_eq_getElem hl2)
      obtain ⟨hr0, hcall⟩ := KK.out n.kids[j] (List.getElem_mem hl2)
      have C := hide (hcall wr (.slice la l.length lc) (Sd.out.below hbb))
      have Ht := hide (firstN_take R n.kids j hl2 hf)
      have Hs := hide (firstN_stop R n.kids j hl2 hf)
      clear hrow hcall hf
      generalize n.kids[j] = kid at *
      by_cases hz : R kid = 0
      · rw [hz] at C
        go_wp2_with (go_at_call 46; refine C.out.mono ?_; rintro e w6 ⟨rfl, b6⟩; have B6 := hide b6; clear b6)
        go_roundw
        case rel => exact ⟨j + 1, by omega, by go_num, by rw [Ht.out]; exact hz, below_trans hb B6.out hb.size⟩
        case measure => simp [intOf]; omega
      · have Hz := hide (Hs.out hz)
        have hp : 0 < R kid := by omega
        clear hz Ht Hs hr0
        generalize R kid = r at *
        go_wp2_with (go_at_call 46; refine C.out.mono ?_; rintro e w6 ⟨rfl, b6⟩; have B6 := hide b6; clear b6)
        go_ret
        exact ⟨by rw [Hz.out]; rfl, below_trans Hbb.out B6.out Hbb.out.size⟩
    · have hje : n.kids.take j = n.kids := List.take_of_length_le (by omega)
      rw [hje] at Hf
      go_wp2_with fail
      go_ret
      exact ⟨by rw [Hf.out]; rfl, Hbb.out⟩

set_option maxRecDepth 20000 in
set_option maxHeartbeats 8000000 in
theorem nm_dd {lo b : Nat} {ρ : Nat → Ro} {M : List (RNd × Value)} {s : XR} {vn vx vt : Value} {line : Int} {l : List RDc} {la : Option Addr} {lc : Nat} (w : World) (see : See w lo b ρ M s vn vx vt line l (.slice la l.length lc)) {k : Nat} {n : RNd} {kv : Value} (hk : M[k]? = some (n, kv)) (_hm : M.length ≤ 2000) (_hkl : n.kids.length ≤ 2000) (hex : n.ex = none) (hov : n.over = []) (hnm : n.name ≠ []) (hkd : n.kind = wVar ∨ n.kind = wChan) (R : Nat → Int) (K : ∀ kid ∈ n.kids, 0 ≤ R kid ∧ ∀ (w' : World) (lv : Value), See w' lo b ρ M s vn vx vt line (l ++ [⟨n.name, decide (n.kind = wChan), k⟩]) lv → Calls Tryz.prog 46 #[.pointer (some ⟨b, 0, none⟩), lv, .int .i64 kid] w' fun e w'' => e = .returned (.int .i64 (R kid)) ∧ Below w'.heap.size w' w'') (hfw : l.length + 1 ≤ 2000) :
    Calls Tryz.prog 46 #[.pointer (some ⟨b, 0, none⟩), .slice la l.length lc, .int .i64 k] w fun e w' => e = .returned (.int .i64 (firstN R n.kids)) ∧ Below w.heap.size w w' := by
  have c0 := see.tx.rd.c0
  obtain ⟨gn, capn, hvn, h1, h2, hc⟩ := node_at see.tx.nodes hk
  obtain ⟨ka, kc, hkv⟩ := ownsRow_len (see.tx.kids k n kv hk)
  have hlt : k < M.length := (List.getElem?_eq_some_iff.1 hk).1
  have Kd := hide (see.tx.kids k n kv hk)
  have d0 := hc 0 _ rfl; rw [Nat.add_zero] at d0; have d1 := hc 1 _ rfl; have d2 := hc 2 _ rfl; have d3 := hc 3 _ rfl; have d4 := hc 4 _ rfl; have d5 := hc 5 _ rfl; have d6 := hc 6 _ rfl
  rw [hvn] at c0
  subst hkv
  have Sd := hide see; have Hk := hide hk
  have Me := hide (fun t ch w h => rmeans_any l (.slice la l.length lc) t ch w h see.few)
  clear see hc hk hvn
  rw [hex] at d5
  replace d5 : w.cell? ⟨gn, k * 7 + 5, none⟩ = some (.int .i64 (-1)) := d5
  have eo : (n.over == []) = true := by rw [hov]; rfl
  have en : (n.name == []) = false := by rw [beq_eq_false_iff_ne]; exact hnm
  have kd : (n.kind == [118, 97, 114]) = true ∨ (n.kind == [118, 97, 114]) = false ∧ (n.kind == [99, 104, 97, 110]) = true := by
    rcases hkd with x | x
    · exact .inl (by rw [beq_iff_eq]; exact x)
    · exact .inr ⟨by rw [x]; decide, by rw [beq_iff_eq]; exact x⟩
  clear hkd hov hnm hex Me
  have KK := hide K
  clear K
  rcases kd with kd1 | ⟨kd1, kd2⟩
  all_goals
    go_enter Tryz.func46, Tryz.ntmps46
    go_wp2_with (first | (go_at_call 71; refine (declared_both _ (Sd.out.below (below_alloc _ _)) Hk.out _hm).mono ?_; rintro e w2 ⟨v2, rfl, o2, b2⟩; obtain ⟨la2, lc2, hv2⟩ := ownsRow_len o2; subst hv2; have q2 := Below.at b2 (at_new w _) (by simp); have y62 := cell_at q2 6; have B2 := hide (below_trans (below_alloc w _) b2 (by simp)); have O2 := hide o2; have Q2 := hide q2; clear o2 b2 q2))
    have hB : Below w.heap.size w w2 := B2.out
    have hQ : (w2).heap[w.heap.size]? = some (.cells #[.string ⟨n.kind.toArray⟩, .int .i64 n.line, .int .i64 n.inn, .string ⟨n.name.toArray⟩, .string ⟨n.over.toArray⟩, .int .i64 (-1), .slice ka n.kids.length kc] 145) := Q2.out
    generalize hws : w2 = ws at *
    clear hws
    go_loopw [10] (fun i wr => ∃ j : Nat, j ≤ n.kids.length ∧ i = .int .i64 j ∧ firstN R (n.kids.take j) = 0 ∧ Below ws.heap.size ws wr) (fun i _ => n.kids.length - (intOf i).toNat)
    case atStart => exact ⟨0, Nat.zero_le _, rfl, rfl, Below.refl _ _⟩
    case round =>
      obtain ⟨j, hj, rfl, hf, hb⟩ := hrel
      have y6 : wr.cell? ⟨w.heap.size, 6, none⟩ = some (.slice ka n.kids.length kc) := cell_at (Below.at hb hQ (lt_of_at hQ)) 6
      have hbb := below_trans hB hb hB.size
      have Hf := hide hf; have Hbb := hide hbb
      by_cases hl2 : j < n.kids.length
      · have hrow := row_below hbb Kd.out
        obtain ⟨g, cap, hsh⟩ := shape_pos hrow (by omega)
        simp only [Value.slice.injEq, true_and] at hsh
        obtain ⟨rfl, rfl⟩ := hsh
        have kc5 := pile_top hrow (List.getElem?_eq_getElem hl2)
        obtain ⟨hr0, hcall⟩ := KK.out n.kids[j] (List.getElem_mem hl2)
        have C := hide (hcall wr (.slice la2 (l.length + 1) lc2) ⟨(Sd.out.below hbb).tx, by have := row_below hb O2.out; simpa using this, by simpa using hfw⟩)
        have Ht := hide (firstN_take R n.kids j hl2 hf)
        have Hs := hide (firstN_stop R n.kids j hl2 hf)
        clear hrow hcall hf
        generalize n.kids[j] = kid at *
        by_cases hz : R kid = 0
        · rw [hz] at C
          go_wp2_with (go_at_call 46; refine C.out.mono ?_; rintro e w6 ⟨rfl, b6⟩; have B6 := hide b6; clear b6)
          go_roundw
          case rel => exact ⟨j + 1, by omega, by go_num, by rw [Ht.out]; exact hz, below_trans hb B6.out hb.size⟩
          case measure => simp [intOf]; omega
        · have Hz := hide (Hs.out hz)
          have hp : 0 < R kid := by omega
          clear hz Ht Hs hr0
          generalize R kid = r at *
          go_wp2_with (go_at_call 46; refine C.out.mono ?_; rintro e w6 ⟨rfl, b6⟩; have B6 := hide b6; clear b6)
          go_ret
          exact ⟨by rw [Hz.out]; rfl, below_trans Hbb.out B6.out Hbb.out.size⟩
      · have hje : n.kids.take j = n.kids := List.take_of_length_le (by omega)
        rw [hje] at Hf
        go_wp2_with fail
        go_ret
        exact ⟨by rw [Hf.out]; rfl, Hbb.out⟩

set_option maxRecDepth 20000 in
set_option maxHeartbeats 8000000 in
theorem nf_b {lo b : Nat} {ρ : Nat → Ro} {M : List (RNd × Value)} {s : XR} {vn vx vt : Value} {line : Int} {l : List RDc} {la : Option Addr} {lc : Nat} (w : World) (see : See w lo b ρ M s vn vx vt line l (.slice la l.length lc)) {k : Nat} {n : RNd} {kv : Value} (hk : M[k]? = some (n, kv)) (_hm : M.length ≤ 2000) (_hkl : n.kids.length ≤ 2000) {pe : PE} {ei : Nat} (hex : n.ex = some ei) (rep : RepX s.xs ei pe) (hxl : s.xs.length ≤ 500000) (hpe : peOk l pe = false) (hov : n.over = []) (hnm : n.name = []) (hkd : n.kind ≠ wVar ∧ n.kind ≠ wChan) :
    Calls Tryz.prog 46 #[.pointer (some ⟨b, 0, none⟩), .slice la l.length lc, .int .i64 k] w fun e w' => e = .returned (.int .i64 (n.line)) ∧ Below w.heap.size w w' := by
  have c0 := see.tx.rd.c0
  obtain ⟨gn, capn, hvn, h1, h2, hc⟩ := node_at see.tx.nodes hk
  obtain ⟨ka, kc, hkv⟩ := ownsRow_len (see.tx.kids k n kv hk)
  have hlt : k < M.length := (List.getElem?_eq_some_iff.1 hk).1
  have Kd := hide (see.tx.kids k n kv hk)
  have d0 := hc 0 _ rfl; rw [Nat.add_zero] at d0; have d1 := hc 1 _ rfl; have d2 := hc 2 _ rfl; have d3 := hc 3 _ rfl; have d4 := hc 4 _ rfl; have d5 := hc 5 _ rfl; have d6 := hc 6 _ rfl
  rw [hvn] at c0
  subst hkv
  have Sd := hide see; have Hk := hide hk
  have Me := hide (fun t ch w h => rmeans_any l (.slice la l.length lc) t ch w h see.few)
  clear see hc hk hvn
  rw [hex] at d5
  replace d5 : w.cell? ⟨gn, k * 7 + 5, none⟩ = some (.int .i64 (ei : Int)) := d5
  have Ex := hide (fun w' h => exprMeans_any (la := la) (lc := lc) (l := l) (lo := lo) (b := b) (ρ := ρ) (M := M) (vn := vn) (vx := vx) (vt := vt) (line := line) hxl rep w' h)
  rw [hpe] at Ex
  have eo : (n.over == []) = true := by rw [hov]; rfl
  have en : (n.name == []) = true := by rw [hnm]; rfl
  have kd1 : (n.kind == [118, 97, 114]) = false := by rw [beq_eq_false_iff_ne]; exact hkd.1
  have kd2 : (n.kind == [99, 104, 97, 110]) = false := by rw [beq_eq_false_iff_ne]; exact hkd.2
  clear hkd hov hnm hex Me
  generalize hml : M.length = m at *
  clear hml
  go_enter Tryz.func46, Tryz.ntmps46
  go_wp2_with (first | (go_at_call 69; refine (Ex.out _ (Sd.out.below (below_alloc _ _))).mono ?_; rintro e w1 ⟨rfl, b1⟩; have q1 := Below.at b1 (at_new w _) (by simp); have x10 := cell_at q1 0; have x11 := cell_at q1 1; have x13 := cell_at q1 3; have x14 := cell_at q1 4; have x15 := cell_at q1 5; have x16 := cell_at q1 6; have B1 := hide (below_trans (below_alloc w _) b1 (by simp)); have Q1 := hide q1; clear b1 q1 Ex))
  go_ret
  exact ⟨rfl, B1.out⟩

set_option maxRecDepth 20000 in
set_option maxHeartbeats 8000000 in
theorem nf_c0 {lo b : Nat} {ρ : Nat → Ro} {M : List (RNd × Value)} {s : XR} {vn vx vt : Value} {line : Int} {l : List RDc} {la : Option Addr} {lc : Nat} (w : World) (see : See w lo b ρ M s vn vx vt line l (.slice la l.length lc)) {k : Nat} {n : RNd} {kv : Value} (hk : M[k]? = some (n, kv)) (_hm : M.length ≤ 2000) (_hkl : n.kids.length ≤ 2000) (hex : n.ex = none) (hov : n.over = []) (hnm : n.name ≠ []) (hkd : n.kind ≠ wVar ∧ n.kind ≠ wChan) (hmn : rmeans l n.name false = -1) :
    Calls Tryz.prog 46 #[.pointer (some ⟨b, 0, none⟩), .slice la l.length lc, .int .i64 k] w fun e w' => e = .returned (.int .i64 (n.line)) ∧ Below w.heap.size w w' := by
  have c0 := see.tx.rd.c0
  obtain ⟨gn, capn, hvn, h1, h2, hc⟩ := node_at see.tx.nodes hk
  obtain ⟨ka, kc, hkv⟩ := ownsRow_len (see.tx.kids k n kv hk)
  have hlt : k < M.length := (List.getElem?_eq_some_iff.1 hk).1
  have Kd := hide (see.tx.kids k n kv hk)
  have d0 := hc 0 _ rfl; rw [Nat.add_zero] at d0; have d1 := hc 1 _ rfl; have d2 := hc 2 _ rfl; have d3 := hc 3 _ rfl; have d4 := hc 4 _ rfl; have d5 := hc 5 _ rfl; have d6 := hc 6 _ rfl
  rw [hvn] at c0
  subst hkv
  have Sd := hide see; have Hk := hide hk
  have Me := hide (fun t ch w h => rmeans_any l (.slice la l.length lc) t ch w h see.few)
  clear see hc hk hvn
  rw [hex] at d5
  replace d5 : w.cell? ⟨gn, k * 7 + 5, none⟩ = some (.int .i64 (-1)) := d5
  have eo : (n.over == []) = true := by rw [hov]; rfl
  have en : (n.name == []) = false := by rw [beq_eq_false_iff_ne]; exact hnm
  have Mn := hide (Me.out n.name false)
  generalize rmeans l n.name false = zn at *
  subst hmn
  have kd1 : (n.kind == [118, 97, 114]) = false := by rw [beq_eq_false_iff_ne]; exact hkd.1
  have kd2 : (n.kind == [99, 104, 97, 110]) = false := by rw [beq_eq_false_iff_ne]; exact hkd.2
  clear hkd hov hnm hex Me
  generalize hml : M.length = m at *
  clear hml
  go_enter Tryz.func46, Tryz.ntmps46
  go_wp2_with (first | (go_at_call 70; refine (Mn.out _ ((Sd.out.below (below_alloc _ _))).dl).mono ?_; rintro e wx ⟨rfl, nd2, rfl⟩; clear Mn))
  go_ret
  exact ⟨rfl, (below_drewN (below_alloc w _) nd2)⟩

set_option maxRecDepth 20000 in
set_option maxHeartbeats 8000000 in
theorem nf_c1 {lo b : Nat} {ρ : Nat → Ro} {M : List (RNd × Value)} {s : XR} {vn vx vt : Value} {line : Int} {l : List RDc} {la : Option Addr} {lc : Nat} (w : World) (see : See w lo b ρ M s vn vx vt line l (.slice la l.length lc)) {k : Nat} {n : RNd} {kv : Value} (hk : M[k]? = some (n, kv)) (_hm : M.length ≤ 2000) (_hkl : n.kids.length ≤ 2000) {pe : PE} {ei : Nat} (hex : n.ex = some ei) (rep : RepX s.xs ei pe) (hxl : s.xs.length ≤ 500000) (hpe : peOk l pe = false) (hov : n.over = []) (hnm : n.name ≠ []) (hkd : n.kind ≠ wVar ∧ n.kind ≠ wChan) :
    Calls Tryz.prog 46 #[.pointer (some ⟨b, 0, none⟩), .slice la l.length lc, .int .i64 k] w fun e w' => e = .returned (.int .i64 (n.line)) ∧ Below w.heap.size w w' := by
  have c0 := see.tx.rd.c0
  obtain ⟨gn, capn, hvn, h1, h2, hc⟩ := node_at see.tx.nodes hk
  obtain ⟨ka, kc, hkv⟩ := ownsRow_len (see.tx.kids k n kv hk)
  have hlt : k < M.length := (List.getElem?_eq_some_iff.1 hk).1
  have Kd := hide (see.tx.kids k n kv hk)
  have d0 := hc 0 _ rfl; rw [Nat.add_zero] at d0; have d1 := hc 1 _ rfl; have d2 := hc 2 _ rfl; have d3 := hc 3 _ rfl; have d4 := hc 4 _ rfl; have d5 := hc 5 _ rfl; have d6 := hc 6 _ rfl
  rw [hvn] at c0
  subst hkv
  have Sd := hide see; have Hk := hide hk
  have Me := hide (fun t ch w h => rmeans_any l (.slice la l.length lc) t ch w h see.few)
  clear see hc hk hvn
  rw [hex] at d5
  replace d5 : w.cell? ⟨gn, k * 7 + 5, none⟩ = some (.int .i64 (ei : Int)) := d5
  have Ex := hide (fun w' h => exprMeans_any (la := la) (lc := lc) (l := l) (lo := lo) (b := b) (ρ := ρ) (M := M) (vn := vn) (vx := vx) (vt := vt) (line := line) hxl rep w' h)
  rw [hpe] at Ex
  have eo : (n.over == []) = true := by rw [hov]; rfl
  have en : (n.name == []) = false := by rw [beq_eq_false_iff_ne]; exact hnm
  have kd1 : (n.kind == [118, 97, 114]) = false := by rw [beq_eq_false_iff_ne]; exact hkd.1
  have kd2 : (n.kind == [99, 104, 97, 110]) = false := by rw [beq_eq_false_iff_ne]; exact hkd.2
  clear hkd hov hnm hex Me
  generalize hml : M.length = m at *
  clear hml
  go_enter Tryz.func46, Tryz.ntmps46
  go_wp2_with (first | (go_at_call 69; refine (Ex.out _ (Sd.out.below (below_alloc _ _))).mono ?_; rintro e w1 ⟨rfl, b1⟩; have q1 := Below.at b1 (at_new w _) (by simp); have x10 := cell_at q1 0; have x11 := cell_at q1 1; have x13 := cell_at q1 3; have x14 := cell_at q1 4; have x15 := cell_at q1 5; have x16 := cell_at q1 6; have B1 := hide (below_trans (below_alloc w _) b1 (by simp)); have Q1 := hide q1; clear b1 q1 Ex))
  go_ret
  exact ⟨rfl, B1.out⟩

set_option maxRecDepth 20000 in
set_option maxHeartbeats 8000000 in
theorem nf_c2 {lo b : Nat} {ρ : Nat → Ro} {M : List (RNd × Value)} {s : XR} {vn vx vt : Value} {line : Int} {l : List RDc} {la : Option Addr} {lc : Nat} (w : World) (see : See w lo b ρ M s vn vx vt line l (.slice la l.length lc)) {k : Nat} {n : RNd} {kv : Value} (hk : M[k]? = some (n, kv)) (_hm : M.length ≤ 2000) (_hkl : n.kids.length ≤ 2000) {pe : PE} {ei : Nat} (hex : n.ex = some ei) (rep : RepX s.xs ei pe) (hxl : s.xs.length ≤ 500000) (hpe : peOk l pe = true) (hov : n.over = []) (hnm : n.name ≠ []) (hkd : n.kind ≠ wVar ∧ n.kind ≠ wChan) (hmn : rmeans l n.name false = -1) :
    Calls Tryz.prog 46 #[.pointer (some ⟨b, 0, none⟩), .slice la l.length lc, .int .i64 k] w fun e w' => e = .returned (.int .i64 (n.line)) ∧ Below w.heap.size w w' := by
  have c0 := see.tx.rd.c0
  obtain ⟨gn, capn, hvn, h1, h2, hc⟩ := node_at see.tx.nodes hk
  obtain ⟨ka, kc, hkv⟩ := ownsRow_len (see.tx.kids k n kv hk)
  have hlt : k < M.length := (List.getElem?_eq_some_iff.1 hk).1
  have Kd := hide (see.tx.kids k n kv hk)
  have d0 := hc 0 _ rfl; rw [Nat.add_zero] at d0; have d1 := hc 1 _ rfl; have d2 := hc 2 _ rfl; have d3 := hc 3 _ rfl; have d4 := hc 4 _ rfl; have d5 := hc 5 _ rfl; have d6 := hc 6 _ rfl
  rw [hvn] at c0
  subst hkv
  have Sd := hide see; have Hk := hide hk
  have Me := hide (fun t ch w h => rmeans_any l (.slice la l.length lc) t ch w h see.few)
  clear see hc hk hvn
  rw [hex] at d5
  replace d5 : w.cell? ⟨gn, k * 7 + 5, none⟩ = some (.int .i64 (ei : Int)) := d5
  have Ex := hide (fun w' h => exprMeans_any (la := la) (lc := lc) (l := l) (lo := lo) (b := b) (ρ := ρ) (M := M) (vn := vn) (vx := vx) (vt := vt) (line := line) hxl rep w' h)
  rw [hpe] at Ex
  have eo : (n.over == []) = true := by rw [hov]; rfl
  have en : (n.name == []) = false := by rw [beq_eq_false_iff_ne]; exact hnm
  have Mn := hide (Me.out n.name false)
  generalize rmeans l n.name false = zn at *
  subst hmn
  have kd1 : (n.kind == [118, 97, 114]) = false := by rw [beq_eq_false_iff_ne]; exact hkd.1
  have kd2 : (n.kind == [99, 104, 97, 110]) = false := by rw [beq_eq_false_iff_ne]; exact hkd.2
  clear hkd hov hnm hex Me
  generalize hml : M.length = m at *
  clear hml
  go_enter Tryz.func46, Tryz.ntmps46
  go_wp2_with (first | (go_at_call 69; refine (Ex.out _ (Sd.out.below (below_alloc _ _))).mono ?_; rintro e w1 ⟨rfl, b1⟩; have q1 := Below.at b1 (at_new w _) (by simp); have x10 := cell_at q1 0; have x11 := cell_at q1 1; have x13 := cell_at q1 3; have x14 := cell_at q1 4; have x15 := cell_at q1 5; have x16 := cell_at q1 6; have B1 := hide (below_trans (below_alloc w _) b1 (by simp)); have Q1 := hide q1; clear b1 q1 Ex) | (go_at_call 70; refine (Mn.out _ ((Sd.out.below B1.out)).dl).mono ?_; rintro e wx ⟨rfl, nd2, rfl⟩; clear Mn))
  go_ret
  exact ⟨rfl, (below_drewN B1.out nd2)⟩

set_option maxRecDepth 20000 in
set_option maxHeartbeats 8000000 in
theorem nf_d0 {lo b : Nat} {ρ : Nat → Ro} {M : List (RNd × Value)} {s : XR} {vn vx vt : Value} {line : Int} {l : List RDc} {la : Option Addr} {lc : Nat} (w : World) (see : See w lo b ρ M s vn vx vt line l (.slice la l.length lc)) {k : Nat} {n : RNd} {kv : Value} (hk : M[k]? = some (n, kv)) (_hm : M.length ≤ 2000) (_hkl : n.kids.length ≤ 2000) (hex : n.ex = none) (hov : n.over ≠ []) (hmo : rmeans l n.over true = -1) (hnm : n.name = []) (hkd : n.kind ≠ wVar ∧ n.kind ≠ wChan) :
    Calls Tryz.prog 46 #[.pointer (some ⟨b, 0, none⟩), .slice la l.length lc, .int .i64 k] w fun e w' => e = .returned (.int .i64 (n.line)) ∧ Below w.heap.size w w' := by
  have c0 := see.tx.rd.c0
  obtain ⟨gn, capn, hvn, h1, h2, hc⟩ := node_at see.tx.nodes hk
  obtain ⟨ka, kc, hkv⟩ := ownsRow_len (see.tx.kids k n kv hk)
  have hlt : k < M.length := (List.getElem?_eq_some_iff.1 hk).1
  have Kd := hide (see.tx.kids k n kv hk)
  have d0 := hc 0 _ rfl; rw [Nat.add_zero] at d0; have d1 := hc 1 _ rfl; have d2 := hc 2 _ rfl; have d3 := hc 3 _ rfl; have d4 := hc 4 _ rfl; have d5 := hc 5 _ rfl; have d6 := hc 6 _ rfl
  rw [hvn] at c0
  subst hkv
  have Sd := hide see; have Hk := hide hk
  have Me := hide (fun t ch w h => rmeans_any l (.slice la l.length lc) t ch w h see.few)
  clear see hc hk hvn
  rw [hex] at d5
  replace d5 : w.cell? ⟨gn, k * 7 + 5, none⟩ = some (.int .i64 (-1)) := d5
  have eo : (n.over == []) = false := by rw [beq_eq_false_iff_ne]; exact hov
  have en : (n.name == []) = true := by rw [hnm]; rfl
  have Mo := hide (Me.out n.over true)
  generalize rmeans l n.over true = zo at *
  subst hmo
  have kd1 : (n.kind == [118, 97, 114]) = false := by rw [beq_eq_false_iff_ne]; exact hkd.1
  have kd2 : (n.kind == [99, 104, 97, 110]) = false := by rw [beq_eq_false_iff_ne]; exact hkd.2
  clear hkd hov hnm hex Me
  generalize hml : M.length = m at *
  clear hml
  go_enter Tryz.func46, Tryz.ntmps46
  go_wp2_with (first | (go_at_call 70; refine (Mo.out _ (Sd.out.below (below_alloc _ _)).dl).mono ?_; rintro e wx ⟨rfl, nd1, rfl⟩; clear Mo))
  go_ret
  exact ⟨rfl, (below_drewN (below_alloc w _) nd1)⟩

set_option maxRecDepth 20000 in
set_option maxHeartbeats 8000000 in
theorem nf_d1 {lo b : Nat} {ρ : Nat → Ro} {M : List (RNd × Value)} {s : XR} {vn vx vt : Value} {line : Int} {l : List RDc} {la : Option Addr} {lc : Nat} (w : World) (see : See w lo b ρ M s vn vx vt line l (.slice la l.length lc)) {k : Nat} {n : RNd} {kv : Value} (hk : M[k]? = some (n, kv)) (_hm : M.length ≤ 2000) (_hkl : n.kids.length ≤ 2000) {pe : PE} {ei : Nat} (hex : n.ex = some ei) (rep : RepX s.xs ei pe) (hxl : s.xs.length ≤ 500000) (hpe : peOk l pe = false) (hov : n.over ≠ []) (hnm : n.name = []) (hkd : n.kind ≠ wVar ∧ n.kind ≠ wChan) :
    Calls Tryz.prog 46 #[.pointer (some ⟨b, 0, none⟩), .slice la l.length lc, .int .i64 k] w fun e w' => e = .returned (.int .i64 (n.line)) ∧ Below w.heap.size w w' := by
  have c0 := see.tx.rd.c0
  obtain ⟨gn, capn, hvn, h1, h2, hc⟩ := node_at see.tx.nodes hk
  obtain ⟨ka, kc, hkv⟩ := ownsRow_len (see.tx.kids k n kv hk)
  have hlt : k < M.length := (List.getElem?_eq_some_iff.1 hk).1
  have Kd := hide (see.tx.kids k n kv hk)
  have d0 := hc 0 _ rfl; rw [Nat.add_zero] at d0; have d1 := hc 1 _ rfl; have d2 := hc 2 _ rfl; have d3 := hc 3 _ rfl; have d4 := hc 4 _ rfl; have d5 := hc 5 _ rfl; have d6 := hc 6 _ rfl
  rw [hvn] at c0
  subst hkv
  have Sd := hide see; have Hk := hide hk
  have Me := hide (fun t ch w h => rmeans_any l (.slice la l.length lc) t ch w h see.few)
  clear see hc hk hvn
  rw [hex] at d5
  replace d5 : w.cell? ⟨gn, k * 7 + 5, none⟩ = some (.int .i64 (ei : Int)) := d5
  have Ex := hide (fun w' h => exprMeans_any (la := la) (lc := lc) (l := l) (lo := lo) (b := b) (ρ := ρ) (M := M) (vn := vn) (vx := vx) (vt := vt) (line := line) hxl rep w' h)
  rw [hpe] at Ex
  have eo : (n.over == []) = false := by rw [beq_eq_false_iff_ne]; exact hov
  have en : (n.name == []) = true := by rw [hnm]; rfl
  have kd1 : (n.kind == [118, 97, 114]) = false := by rw [beq_eq_false_iff_ne]; exact hkd.1
  have kd2 : (n.kind == [99, 104, 97, 110]) = false := by rw [beq_eq_false_iff_ne]; exact hkd.2
  clear hkd hov hnm hex Me
  generalize hml : M.length = m at *
  clear hml
  go_enter Tryz.func46, Tryz.ntmps46
  go_wp2_with (first | (go_at_call 69; refine (Ex.out _ (Sd.out.below (below_alloc _ _))).mono ?_; rintro e w1 ⟨rfl, b1⟩; have q1 := Below.at b1 (at_new w _) (by simp); have x10 := cell_at q1 0; have x11 := cell_at q1 1; have x13 := cell_at q1 3; have x14 := cell_at q1 4; have x15 := cell_at q1 5; have x16 := cell_at q1 6; have B1 := hide (below_trans (below_alloc w _) b1 (by simp)); have Q1 := hide q1; clear b1 q1 Ex))
  go_ret
  exact ⟨rfl, B1.out⟩

set_option maxRecDepth 20000 in
set_option maxHeartbeats 8000000 in
theorem nf_d2 {lo b : Nat} {ρ : Nat → Ro} {M : List (RNd × Value)} {s : XR} {vn vx vt : Value} {line : Int} {l : List RDc} {la : Option Addr} {lc : Nat} (w : World) (see : See w lo b ρ M s vn vx vt line l (.slice la l.length lc)) {k : Nat} {n : RNd} {kv : Value} (hk : M[k]? = some (n, kv)) (_hm : M.length ≤ 2000) (_hkl : n.kids.length ≤ 2000) {pe : PE} {ei : Nat} (hex : n.ex = some ei) (rep : RepX s.xs ei pe) (hxl : s.xs.length ≤ 500000) (hpe : peOk l pe = true) (hov : n.over ≠ []) (hmo : rmeans l n.over true = -1) (hnm : n.name = []) (hkd : n.kind ≠ wVar ∧ n.kind ≠ wChan) :
    Calls Tryz.prog 46 #[.pointer (some ⟨b, 0, none⟩), .slice la l.length lc, .int .i64 k] w fun e w' => e = .returned (.int .i64 (n.line)) ∧ Below w.heap.size w w' := by
  have c0 := see.tx.rd.c0
  obtain ⟨gn, capn, hvn, h1, h2, hc⟩ := node_at see.tx.nodes hk
  obtain ⟨ka, kc, hkv⟩ := ownsRow_len (see.tx.kids k n kv hk)
  have hlt : k < M.length := (List.getElem?_eq_some_iff.1 hk).1
  have Kd := hide (see.tx.kids k n kv hk)
  have d0 := hc 0 _ rfl; rw [Nat.add_zero] at d0; have d1 := hc 1 _ rfl; have d2 := hc 2 _ rfl; have d3 := hc 3 _ rfl; have d4 := hc 4 _ rfl; have d5 := hc 5 _ rfl; have d6 := hc 6 _ rfl
  rw [hvn] at c0
  subst hkv
  have Sd := hide see; have Hk := hide hk
  have Me := hide (fun t ch w h => rmeans_any l (.slice la l.length lc) t ch w h see.few)
  clear see hc hk hvn
  rw [hex] at d5
  replace d5 : w.cell? ⟨gn, k * 7 + 5, none⟩ = some (.int .i64 (ei : Int)) := d5
  have Ex := hide (fun w' h => exprMeans_any (la := la) (lc := lc) (l := l) (lo := lo) (b := b) (ρ := ρ) (M := M) (vn := vn) (vx := vx) (vt := vt) (line := line) hxl rep w' h)
  rw [hpe] at Ex
  have eo : (n.over == []) = false := by rw [beq_eq_false_iff_ne]; exact hov
  have en : (n.name == []) = true := by rw [hnm]; rfl
  have Mo := hide (Me.out n.over true)
  generalize rmeans l n.over true = zo at *
  subst hmo
  have kd1 : (n.kind == [118, 97, 114]) = false := by rw [beq_eq_false_iff_ne]; exact hkd.1
  have kd2 : (n.kind == [99, 104, 97, 110]) = false := by rw [beq_eq_false_iff_ne]; exact hkd.2
  clear hkd hov hnm hex Me
  generalize hml : M.length = m at *
  clear hml
  go_enter Tryz.func46, Tryz.ntmps46
  go_wp2_with (first | (go_at_call 69; refine (Ex.out _ (Sd.out.below (below_alloc _ _))).mono ?_; rintro e w1 ⟨rfl, b1⟩; have q1 := Below.at b1 (at_new w _) (by simp); have x10 := cell_at q1 0; have x11 := cell_at q1 1; have x13 := cell_at q1 3; have x14 := cell_at q1 4; have x15 := cell_at q1 5; have x16 := cell_at q1 6; have B1 := hide (below_trans (below_alloc w _) b1 (by simp)); have Q1 := hide q1; clear b1 q1 Ex) | (go_at_call 70; refine (Mo.out _ (Sd.out.below B1.out).dl).mono ?_; rintro e wx ⟨rfl, nd1, rfl⟩; clear Mo))
  go_ret
  exact ⟨rfl, (below_drewN B1.out nd1)⟩

set_option maxRecDepth 20000 in
set_option maxHeartbeats 8000000 in
theorem nf_e0 {lo b : Nat} {ρ : Nat → Ro} {M : List (RNd × Value)} {s : XR} {vn vx vt : Value} {line : Int} {l : List RDc} {la : Option Addr} {lc : Nat} (w : World) (see : See w lo b ρ M s vn vx vt line l (.slice la l.length lc)) {k : Nat} {n : RNd} {kv : Value} (hk : M[k]? = some (n, kv)) (_hm : M.length ≤ 2000) (_hkl : n.kids.length ≤ 2000) (hex : n.ex = none) (hov : n.over ≠ []) (hmo : rmeans l n.over true = -1) (hnm : n.name ≠ []) (hkd : n.kind ≠ wVar ∧ n.kind ≠ wChan) :
    Calls Tryz.prog 46 #[.pointer (some ⟨b, 0, none⟩), .slice la l.length lc, .int .i64 k] w fun e w' => e = .returned (.int .i64 (n.line)) ∧ Below w.heap.size w w' := by
  have c0 := see.tx.rd.c0
  obtain ⟨gn, capn, hvn, h1, h2, hc⟩ := node_at see.tx.nodes hk
  obtain ⟨ka, kc, hkv⟩ := ownsRow_len (see.tx.kids k n kv hk)
  have hlt : k < M.length := (List.getElem?_eq_some_iff.1 hk).1
  have Kd := hide (see.tx.kids k n kv hk)
  have d0 := hc 0 _ rfl; rw [Nat.add_zero] at d0; have d1 := hc 1 _ rfl; have d2 := hc 2 _ rfl; have d3 := hc 3 _ rfl; have d4 := hc 4 _ rfl; have d5 := hc 5 _ rfl; have d6 := hc 6 _ rfl
  rw [hvn] at c0
  subst hkv
  have Sd := hide see; have Hk := hide hk
  have Me := hide (fun t ch w h => rmeans_any l (.slice la l.length lc) t ch w h see.few)
  clear see hc hk hvn
  rw [hex] at d5
  replace d5 : w.cell? ⟨gn, k * 7 + 5, none⟩ = some (.int .i64 (-1)) := d5
  have eo : (n.over == []) = false := by rw [beq_eq_false_iff_ne]; exact hov
  have en : (n.name == []) = false := by rw [beq_eq_false_iff_ne]; exact hnm
  have Mo := hide (Me.out n.over true)
  generalize rmeans l n.over true = zo at *
  subst hmo
  have kd1 : (n.kind == [118, 97, 114]) = false := by rw [beq_eq_false_iff_ne]; exact hkd.1
  have kd2 : (n.kind == [99, 104, 97, 110]) = false := by rw [beq_eq_false_iff_ne]; exact hkd.2
  clear hkd hov hnm hex Me
  generalize hml : M.length = m at *
  clear hml
  go_enter Tryz.func46, Tryz.ntmps46
  go_wp2_with (first | (go_at_call 70; refine (Mo.out _ (Sd.out.below (below_alloc _ _)).dl).mono ?_; rintro e wx ⟨rfl, nd1, rfl⟩; clear Mo))
  go_ret
  exact ⟨rfl, (below_drewN (below_alloc w _) nd1)⟩

set_option maxRecDepth 20000 in
set_option maxHeartbeats 8000000 in
theorem nf_e1 {lo b : Nat} {ρ : Nat → Ro} {M : List (RNd × Value)} {s : XR} {vn vx vt : Value} {line : Int} {l : List RDc} {la : Option Addr} {lc : Nat} (w : World) (see : See w lo b ρ M s vn vx vt line l (.slice la l.length lc)) {k : Nat} {n : RNd} {kv : Value} (hk : M[k]? = some (n, kv)) (_hm : M.length ≤ 2000) (_hkl : n.kids.length ≤ 2000) (hex : n.ex = none) (hov : n.over ≠ []) (hmo : rmeans l n.over true ≠ -1) (hnm : n.name ≠ []) (hkd : n.kind ≠ wVar ∧ n.kind ≠ wChan) (hmn : rmeans l n.name false = -1) :
    Calls Tryz.prog 46 #[.pointer (some ⟨b, 0, none⟩), .slice la l.length lc, .int .i64 k] w fun e w' => e = .returned (.int .i64 (n.line)) ∧ Below w.heap.size w w' := by
  have c0 := see.tx.rd.c0
  obtain ⟨gn, capn, hvn, h1, h2, hc⟩ := node_at see.tx.nodes hk
  obtain ⟨ka, kc, hkv⟩ := ownsRow_len (see.tx.kids k n kv hk)
  have hlt : k < M.length := (List.getElem?_eq_some_iff.1 hk).1
  have Kd := hide (see.tx.kids k n kv hk)
  have d0 := hc 0 _ rfl; rw [Nat.add_zero] at d0; have d1 := hc 1 _ rfl; have d2 := hc 2 _ rfl; have d3 := hc 3 _ rfl; have d4 := hc 4 _ rfl; have d5 := hc 5 _ rfl; have d6 := hc 6 _ rfl
  rw [hvn] at c0
  subst hkv
  have Sd := hide see; have Hk := hide hk
  have Me := hide (fun t ch w h => rmeans_any l (.slice la l.length lc) t ch w h see.few)
  clear see hc hk hvn
  rw [hex] at d5
  replace d5 : w.cell? ⟨gn, k * 7 + 5, none⟩ = some (.int .i64 (-1)) := d5
  have eo : (n.over == []) = false := by rw [beq_eq_false_iff_ne]; exact hov
  have en : (n.name == []) = false := by rw [beq_eq_false_iff_ne]; exact hnm
  have Mo := hide (Me.out n.over true)
  generalize rmeans l n.over true = zo at *
  have ezo : (zo != -1) = true := by rw [bne_iff_ne]; exact hmo
  have Mn := hide (Me.out n.name false)
  generalize rmeans l n.name false = zn at *
  subst hmn
  have kd1 : (n.kind == [118, 97, 114]) = false := by rw [beq_eq_false_iff_ne]; exact hkd.1
  have kd2 : (n.kind == [99, 104, 97, 110]) = false := by rw [beq_eq_false_iff_ne]; exact hkd.2
  clear hkd hov hnm hex Me
  generalize hml : M.length = m at *
  clear hml
  go_enter Tryz.func46, Tryz.ntmps46
  go_wp2_with (first | (go_at_call 70; refine (Mo.out _ (Sd.out.below (below_alloc _ _)).dl).mono ?_; rintro e wx ⟨rfl, nd1, rfl⟩; clear Mo) | (go_at_call 70; refine (Mn.out _ ((Sd.out.below (below_alloc _ _)).below (below_drewN (Below.refl _ _) nd1)).dl).mono ?_; rintro e wx ⟨rfl, nd2, rfl⟩; clear Mn))
  go_ret
  exact ⟨rfl, (below_drewN (below_alloc w _) (nd1 + nd2))⟩

set_option maxRecDepth 20000 in
set_option maxHeartbeats 8000000 in
theorem nf_e2 {lo b : Nat} {ρ : Nat → Ro} {M : List (RNd × Value)} {s : XR} {vn vx vt : Value} {line : Int} {l : List RDc} {la : Option Addr} {lc : Nat} (w : World) (see : See w lo b ρ M s vn vx vt line l (.slice la l.length lc)) {k : Nat} {n : RNd} {kv : Value} (hk : M[k]? = some (n, kv)) (_hm : M.length ≤ 2000) (_hkl : n.kids.length ≤ 2000) {pe : PE} {ei : Nat} (hex : n.ex = some ei) (rep : RepX s.xs ei pe) (hxl : s.xs.length ≤ 500000) (hpe : peOk l pe = false) (hov : n.over ≠ []) (hnm : n.name ≠ []) (hkd : n.kind ≠ wVar ∧ n.kind ≠ wChan) :
    Calls Tryz.prog 46 #[.pointer (some ⟨b, 0, none⟩), .slice la l.length lc, .int .i64 k] w fun e w' => e = .returned (.int .i64 (n.line)) ∧ Below w.heap.size w w' := by
  have c0 := see.tx.rd.c0
  obtain ⟨gn, capn, hvn, h1, h2, hc⟩ := node_at see.tx.nodes hk
  obtain ⟨ka, kc, hkv⟩ := ownsRow_len (see.tx.kids k n kv hk)
  have hlt : k < M.length := (List.getElem?_eq_some_iff.1 hk).1
  have Kd := hide (see.tx.kids k n kv hk)
  have d0 := hc 0 _ rfl; rw [Nat.add_zero] at d0; have d1 := hc 1 _ rfl; have d2 := hc 2 _ rfl; have d3 := hc 3 _ rfl; have d4 := hc 4 _ rfl; have d5 := hc 5 _ rfl; have d6 := hc 6 _ rfl
  rw [hvn] at c0
  subst hkv
  have Sd := hide see; have Hk := hide hk
  have Me := hide (fun t ch w h => rmeans_any l (.slice la l.length lc) t ch w h see.few)
  clear see hc hk hvn
  rw [hex] at d5
  replace d5 : w.cell? ⟨gn, k * 7 + 5, none⟩ = some (.int .i64 (ei : Int)) := d5
  have Ex := hide (fun w' h => exprMeans_any (la := la) (lc := lc) (l := l) (lo := lo) (b := b) (ρ := ρ) (M := M) (vn := vn) (vx := vx) (vt := vt) (line := line) hxl rep w' h)
  rw [hpe] at Ex
  have eo : (n.over == []) = false := by rw [beq_eq_false_iff_ne]; exact hov
  have en : (n.name == []) = false := by rw [beq_eq_false_iff_ne]; exact hnm
  have kd1 : (n.kind == [118, 97, 114]) = false := by rw [beq_eq_false_iff_ne]; exact hkd.1
  have kd2 : (n.kind == [99, 104, 97, 110]) = false := by rw [beq_eq_false_iff_ne]; exact hkd.2
  clear hkd hov hnm hex Me
  generalize hml : M.length = m at *
  clear hml
  go_enter Tryz.func46, Tryz.ntmps46
  go_wp2_with (first | (go_at_call 69; refine (Ex.out _ (Sd.out.below (below_alloc _ _))).mono ?_; rintro e w1 ⟨rfl, b1⟩; have q1 := Below.at b1 (at_new w _) (by simp); have x10 := cell_at q1 0; have x11 := cell_at q1 1; have x13 := cell_at q1 3; have x14 := cell_at q1 4; have x15 := cell_at q1 5; have x16 := cell_at q1 6; have B1 := hide (below_trans (below_alloc w _) b1 (by simp)); have Q1 := hide q1; clear b1 q1 Ex))
  go_ret
  exact ⟨rfl, B1.out⟩

set_option maxRecDepth 20000 in
set_option maxHeartbeats 8000000 in
theorem nf_e3 {lo b : Nat} {ρ : Nat → Ro} {M : List (RNd × Value)} {s : XR} {vn vx vt : Value} {line : Int} {l : List RDc} {la : Option Addr} {lc : Nat} (w : World) (see : See w lo b ρ M s vn vx vt line l (.slice la l.length lc)) {k : Nat} {n : RNd} {kv : Value} (hk : M[k]? = some (n, kv)) (_hm : M.length ≤ 2000) (_hkl : n.kids.length ≤ 2000) {pe : PE} {ei : Nat} (hex : n.ex = some ei) (rep : RepX s.xs ei pe) (hxl : s.xs.length ≤ 500000) (hpe : peOk l pe = true) (hov : n.over ≠ []) (hmo : rmeans l n.over true = -1) (hnm : n.name ≠ []) (hkd : n.kind ≠ wVar ∧ n.kind ≠ wChan) :
    Calls Tryz.prog 46 #[.pointer (some ⟨b, 0, none⟩), .slice la l.length lc, .int .i64 k] w fun e w' => e = .returned (.int .i64 (n.line)) ∧ Below w.heap.size w w' := by
  have c0 := see.tx.rd.c0
  obtain ⟨gn, capn, hvn, h1, h2, hc⟩ := node_at see.tx.nodes hk
  obtain ⟨ka, kc, hkv⟩ := ownsRow_len (see.tx.kids k n kv hk)
  have hlt : k < M.length := (List.getElem?_eq_some_iff.1 hk).1
  have Kd := hide (see.tx.kids k n kv hk)
  have d0 := hc 0 _ rfl; rw [Nat.add_zero] at d0; have d1 := hc 1 _ rfl; have d2 := hc 2 _ rfl; have d3 := hc 3 _ rfl; have d4 := hc 4 _ rfl; have d5 := hc 5 _ rfl; have d6 := hc 6 _ rfl
  rw [hvn] at c0
  subst hkv
  have Sd := hide see; have Hk := hide hk
  have Me := hide (fun t ch w h => rmeans_any l (.slice la l.length lc) t ch w h see.few)
  clear see hc hk hvn
  rw [hex] at d5
  replace d5 : w.cell? ⟨gn, k * 7 + 5, none⟩ = some (.int .i64 (ei : Int)) := d5
  have Ex := hide (fun w' h => exprMeans_any (la := la) (lc := lc) (l := l) (lo := lo) (b := b) (ρ := ρ) (M := M) (vn := vn) (vx := vx) (vt := vt) (line := line) hxl rep w' h)
  rw [hpe] at Ex
  have eo : (n.over == []) = false := by rw [beq_eq_false_iff_ne]; exact hov
  have en : (n.name == []) = false := by rw [beq_eq_false_iff_ne]; exact hnm
  have Mo := hide (Me.out n.over true)
  generalize rmeans l n.over true = zo at *
  subst hmo
  have kd1 : (n.kind == [118, 97, 114]) = false := by rw [beq_eq_false_iff_ne]; exact hkd.1
  have kd2 : (n.kind == [99, 104, 97, 110]) = false := by rw [beq_eq_false_iff_ne]; exact hkd.2
  clear hkd hov hnm hex Me
  generalize hml : M.length = m at *
  clear hml
  go_enter Tryz.func46, Tryz.ntmps46
  go_wp2_with (first | (go_at_call 69; refine (Ex.out _ (Sd.out.below (below_alloc _ _))).mono ?_; rintro e w1 ⟨rfl, b1⟩; have q1 := Below.at b1 (at_new w _) (by simp); have x10 := cell_at q1 0; have x11 := cell_at q1 1; have x13 := cell_at q1 3; have x14 := cell_at q1 4; have x15 := cell_at q1 5; have x16 := cell_at q1 6; have B1 := hide (below_trans (below_alloc w _) b1 (by simp)); have Q1 := hide q1; clear b1 q1 Ex) | (go_at_call 70; refine (Mo.out _ (Sd.out.below B1.out).dl).mono ?_; rintro e wx ⟨rfl, nd1, rfl⟩; clear Mo))
  go_ret
  exact ⟨rfl, (below_drewN B1.out nd1)⟩

set_option maxRecDepth 20000 in
set_option maxHeartbeats 8000000 in
theorem nf_e4 {lo b : Nat} {ρ : Nat → Ro} {M : List (RNd × Value)} {s : XR} {vn vx vt : Value} {line : Int} {l : List RDc} {la : Option Addr} {lc : Nat} (w : World) (see : See w lo b ρ M s vn vx vt line l (.slice la l.length lc)) {k : Nat} {n : RNd} {kv : Value} (hk : M[k]? = some (n, kv)) (_hm : M.length ≤ 2000) (_hkl : n.kids.length ≤ 2000) {pe : PE} {ei : Nat} (hex : n.ex = some ei) (rep : RepX s.xs ei pe) (hxl : s.xs.length ≤ 500000) (hpe : peOk l pe = true) (hov : n.over ≠ []) (hmo : rmeans l n.over true ≠ -1) (hnm : n.name ≠ []) (hkd : n.kind ≠ wVar ∧ n.kind ≠ wChan) (hmn : rmeans l n.name false = -1) :
    Calls Tryz.prog 46 #[.pointer (some ⟨b, 0, none⟩), .slice la l.length lc, .int .i64 k] w fun e w' => e = .returned (.int .i64 (n.line)) ∧ Below w.heap.size w w' := by
  have c0 := see.tx.rd.c0
  obtain ⟨gn, capn, hvn, h1, h2, hc⟩ := node_at see.tx.nodes hk
  obtain ⟨ka, kc, hkv⟩ := ownsRow_len (see.tx.kids k n kv hk)
  have hlt : k < M.length := (List.getElem?_eq_some_iff.1 hk).1
  have Kd := hide (see.tx.kids k n kv hk)
  have d0 := hc 0 _ rfl; rw [Nat.add_zero] at d0; have d1 := hc 1 _ rfl; have d2 := hc 2 _ rfl; have d3 := hc 3 _ rfl; have d4 := hc 4 _ rfl; have d5 := hc 5 _ rfl; have d6 := hc 6 _ rfl
  rw [hvn] at c0
  subst hkv
  have Sd := hide see; have Hk := hide hk
  have Me := hide (fun t ch w h => rmeans_any l (.slice la l.length lc) t ch w h see.few)
  clear see hc hk hvn
  rw [hex] at d5
  replace d5 : w.cell? ⟨gn, k * 7 + 5, none⟩ = some (.int .i64 (ei : Int)) := d5
  have Ex := hide (fun w' h => exprMeans_any (la := la) (lc := lc) (l := l) (lo := lo) (b := b) (ρ := ρ) (M := M) (vn := vn) (vx := vx) (vt := vt) (line := line) hxl rep w' h)
  rw [hpe] at Ex
  have eo : (n.over == []) = false := by rw [beq_eq_false_iff_ne]; exact hov
  have en : (n.name == []) = false := by rw [beq_eq_false_iff_ne]; exact hnm
  have Mo := hide (Me.out n.over true)
  generalize rmeans l n.over true = zo at *
  have ezo : (zo != -1) = true := by rw [bne_iff_ne]; exact hmo
  have Mn := hide (Me.out n.name false)
  generalize rmeans l n.name false = zn at *
  subst hmn
  have kd1 : (n.kind == [118, 97, 114]) = false := by rw [beq_eq_false_iff_ne]; exact hkd.1
  have kd2 : (n.kind == [99, 104, 97, 110]) = false := by rw [beq_eq_false_iff_ne]; exact hkd.2
  clear hkd hov hnm hex Me
  generalize hml : M.length = m at *
  clear hml
  go_enter Tryz.func46, Tryz.ntmps46
  go_wp2_with (first | (go_at_call 69; refine (Ex.out _ (Sd.out.below (below_alloc _ _))).mono ?_; rintro e w1 ⟨rfl, b1⟩; have q1 := Below.at b1 (at_new w _) (by simp); have x10 := cell_at q1 0; have x11 := cell_at q1 1; have x13 := cell_at q1 3; have x14 := cell_at q1 4; have x15 := cell_at q1 5; have x16 := cell_at q1 6; have B1 := hide (below_trans (below_alloc w _) b1 (by simp)); have Q1 := hide q1; clear b1 q1 Ex) | (go_at_call 70; refine (Mo.out _ (Sd.out.below B1.out).dl).mono ?_; rintro e wx ⟨rfl, nd1, rfl⟩; clear Mo) | (go_at_call 70; refine (Mn.out _ ((Sd.out.below B1.out).below (below_drewN (Below.refl _ _) nd1)).dl).mono ?_; rintro e wx ⟨rfl, nd2, rfl⟩; clear Mn))
  go_ret
  exact ⟨rfl, (below_drewN B1.out (nd1 + nd2))⟩
end Go.Proofs.YtnhidaamfnjdjaaGreatDoor
