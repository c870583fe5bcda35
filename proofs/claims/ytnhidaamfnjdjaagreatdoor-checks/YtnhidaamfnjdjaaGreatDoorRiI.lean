import Derived.Test.YtnhidaamfnjdjaaGreatDoorRiB
import Derived.Test.YtnhidaamfnjdjaaGreatDoorRhY
namespace Go.Proofs.YtnhidaamfnjdjaaGreatDoor
open Go.RowKit Go.Maps

/-- no two of the first i clash -/
def NoTwo (U : Nat → List (Int × Nat)) (ks : List Nat) (i : Nat) : Prop := ∀ a, a < i → ∀ c, c < a → rclashL (U (ks.getD a 0)) (U (ks.getD c 0)) = false

set_option maxRecDepth 20000 in
set_option maxHeartbeats 8000000 in
theorem sh_p {lo b : Nat} {ρ : Nat → Ro} {M : List (RNd × Value)} {s : XR} {vn vx vt : Value} {line : Int} {l : List RDc} {la : Option Addr} {lc : Nat} (w : World) (see : See w lo b ρ M s vn vx vt line l (.slice la l.length lc)) {k : Nat} {n : RNd} {kv : Value} (hk : M[k]? = some (n, kv)) (_hm : M.length ≤ 2000) (_hkl : n.kids.length ≤ 2000)
    (hpp : n.kind = wPar ∨ n.kind = wPri) (U : Nat → List (Int × Nat)) (hU : ∀ kid ∈ n.kids, (U kid).length ≤ 500000 ∧ (∀ p ∈ U kid, WayOk p) ∧ ∀ (w' : World) (lv : Value), See w' lo b ρ M s vn vx vt line l lv → Calls Tryz.prog 72 #[.pointer (some ⟨b, 0, none⟩), lv, .int .i64 kid] w' fun e w'' => ∃ v, e = .returned v ∧ UseAt w' w'' v (U kid))
    (hno : ¬ NoTwo U n.kids n.kids.length) :
    Calls Tryz.prog 47 #[.pointer (some ⟨b, 0, none⟩), .slice la l.length lc, .int .i64 k] w fun e w' => e = .returned (.int .i64 n.line) ∧ Below w.heap.size w w' := by
  have c0 := see.tx.rd.c0
  obtain ⟨gn, capn, hvn, h1, h2, hc⟩ := node_at see.tx.nodes hk
  obtain ⟨ka, kc, hkv⟩ := ownsRow_len (see.tx.kids k n kv hk)
  have hlt : k < M.length := (List.getElem?_eq_some_iff.1 hk).1
  have Kd := hide (see.tx.kids k n kv hk)
  have d0 := hc 0 _ rfl; rw [Nat.add_zero] at d0; have d1 := hc 1 _ rfl; have d2 := hc 2 _ rfl; have d3 := hc 3 _ rfl; have d4 := hc 4 _ rfl; have d5 := hc 5 _ rfl; have d6 := hc 6 _ rfl
  rw [hvn] at c0
  subst hkv
  have Sd := hide see; have HU := hide hU; have Hno : Hid (¬ NoTwo U n.kids n.kids.length) := hno
  clear see hc hk hvn hU hno
  have ep : (n.kind == [112, 97, 114]) = true ∨ (n.kind == [112, 97, 114]) = false ∧ (n.kind == [112, 114, 105]) = true := by
    rcases hpp with x | x
    · exact .inl (by rw [beq_iff_eq]; exact x)
    · exact .inr ⟨by rw [x]; decide, by rw [beq_iff_eq]; exact x⟩
  clear hpp
  generalize hml : M.length = m at *
  clear hml
  rcases ep with ep1 | ⟨ep1, ep2⟩
  all_goals
    go_enter Tryz.func47, Tryz.ntmps47
    go_wp2_with fail
    have hQ := at_new w (.cells #[.string ⟨n.kind.toArray⟩, .int .i64 n.line, .int .i64 n.inn, .string ⟨n.name.toArray⟩, .string ⟨n.over.toArray⟩, .int .i64 (exI n.ex), .slice ka n.kids.length kc] 145)
    have hB := below_alloc w (.cells #[.string ⟨n.kind.toArray⟩, .int .i64 n.line, .int .i64 n.inn, .string ⟨n.name.toArray⟩, .string ⟨n.over.toArray⟩, .int .i64 (exI n.ex), .slice ka n.kids.length kc] 145)
    generalize (w.alloc (.cells #[.string ⟨n.kind.toArray⟩, .int .i64 n.line, .int .i64 n.inn, .string ⟨n.name.toArray⟩, .string ⟨n.over.toArray⟩, .int .i64 (exI n.ex), .slice ka n.kids.length kc] 145)) = ws at hQ hB ⊢
    go_loopw [8] (fun i wr => ∃ j : Nat, j ≤ n.kids.length ∧ i = .int .i64 j ∧ NoTwo U n.kids j ∧ Below ws.heap.size ws wr) (fun i _ => n.kids.length - (intOf i).toNat)
    case atStart => exact ⟨0, Nat.zero_le _, rfl, fun a ha => by omega, Below.refl _ _⟩
    case round =>
      obtain ⟨i, hi, rfl, hf, hb⟩ := hrel
      have y6 : wr.cell? ⟨w.heap.size, 6, none⟩ = some (.slice ka n.kids.length kc) := cell_at (Below.at hb hQ (lt_of_at hQ)) 6
      by_cases hl2 : i < n.kids.length
      · have Hf := hide hf; have Hb := hide hb
        clear hf hb
        go_wp2_with fail
        go_loopw [9] (fun j w2 => ∃ q : Nat, q ≤ i ∧ j = .int .i64 q ∧ (∀ c, c < q → rclashL (U (n.kids.getD i 0)) (U (n.kids.getD c 0)) = false) ∧ Below ws.heap.size ws w2) (fun j _ => i - (intOf j).toNat)
        case atStart => exact ⟨0, Nat.zero_le _, rfl, fun c hc => by omega, Hb.out⟩
        case round =>
          obtain ⟨q, hq, rfl, hf2, hb2⟩ := hrel
          have hQ2 := Below.at hb2 hQ (lt_of_at hQ)
          have z6 := cell_at hQ2 6
          have hbb := below_trans hB hb2 hB.size
          by_cases hl3 : q < i
          · have hrow := row_below hbb Kd.out
            obtain ⟨g, cap, hsh⟩ := shape_pos hrow (by omega)
            simp only [Value.slice.injEq, true_and] at hsh
            obtain ⟨rfl, rfl⟩ := hsh
            have e1 : n.kids[i]? = some (n.kids.getD i 0) := by rw [getD_lt _ _ _ hl2]; exact List.getElem?_eq_getElem hl2
            have e2 : n.kids[q]? = some (n.kids.getD q 0) := by rw [getD_lt _ _ _ (by omega)]; exact List.getElem?_eq_getElem (by omega)
            have k1 := pile_top hrow e1
            obtain ⟨l1, w1ok, C1⟩ := HU.out _ (List.mem_of_getElem? e1)
            obtain ⟨l2, w2ok, C2⟩ := HU.out _ (List.mem_of_getElem? e2)
            have A1 := hide (C1 wr _ (Sd.out.below hbb))
            have Hrow := hide hrow; have E2 := hide e2; have HQ2 := hide hQ2; have Hbb := hide hbb; have Hb2 := hide hb2; have CC := hide C2
            have Hfin : Hid (∀ z, rclashL (U (n.kids.getD i 0)) (U (n.kids.getD q 0)) = z → z = false → ∀ c, c < q + 1 → rclashL (U (n.kids.getD i 0)) (U (n.kids.getD c 0)) = false) := hide (by
              intro z hz hzf c hc
              rcases Nat.lt_or_ge c q with y | y
              · exact hf2 c y
              · have : c = q := by omega
                subst this
                rw [hz, hzf])
            have WO := hide (And.intro w1ok w2ok)
            clear hrow e1 e2 C1 C2 hf2 hb2 hbb hQ2 w1ok w2ok
            generalize n.kids.getD i 0 = k1' at *
            generalize n.kids.getD q 0 = k2' at *
            cases hz : rclashL (U k1') (U k2') with
            | true =>
              go_wp2_with (first | (go_at_call 72; refine A1.out.mono ?_; rintro e w3 ⟨v3, rfl, u3⟩; obtain ⟨a3, c3, rfl⟩ := ownsRow_len u3.own; have q3 := Below.at u3.bel HQ2.out (lt_of_at HQ2.out); have z63 := cell_at q3 6; have k2 := pile_top (row_below u3.bel Hrow.out) E2.out; have Q3 := hide q3; have U3 := hide u3; clear q3 u3 A1) | (go_at_call 72; refine (CC.out w3 _ ((Sd.out.below Hbb.out).below U3.out.bel)).mono ?_; rintro e w4 ⟨v4, rfl, u4⟩; obtain ⟨a4, c4, rfl⟩ := ownsRow_len u4.own; have U4 := hide u4; clear u4) | (go_at_call 73; refine (clashes_any (U k1') (U k2') WO.out.1 WO.out.2 _ _ _ _ w4 (row_below U4.out.bel U3.out.own) U4.out.own l1 l2).mono ?_; rw [hz]; rintro e w5 ⟨rfl, b5⟩; have q5 := Below.at b5 (Below.at U4.out.bel Q3.out (lt_of_at Q3.out)) (Nat.lt_of_lt_of_le (lt_of_at Q3.out) U4.out.bel.size); have z15 := cell_at q5 1; have B5 := hide b5; clear b5 q5))
              go_ret
              exact ⟨rfl, below_trans (below_trans (below_trans Hbb.out U3.out.bel Hbb.out.size) U4.out.bel (Nat.le_trans Hbb.out.size U3.out.bel.size)) B5.out (Nat.le_trans Hbb.out.size (Nat.le_trans U3.out.bel.size U4.out.bel.size))⟩
            | false =>
              have Hn := hide (Hfin.out _ hz rfl)
              go_wp2_with (first | (go_at_call 72; refine A1.out.mono ?_; rintro e w3 ⟨v3, rfl, u3⟩; obtain ⟨a3, c3, rfl⟩ := ownsRow_len u3.own; have q3 := Below.at u3.bel HQ2.out (lt_of_at HQ2.out); have z63 := cell_at q3 6; have k2 := pile_top (row_below u3.bel Hrow.out) E2.out; have Q3 := hide q3; have U3 := hide u3; clear q3 u3 A1) | (go_at_call 72; refine (CC.out w3 _ ((Sd.out.below Hbb.out).below U3.out.bel)).mono ?_; rintro e w4 ⟨v4, rfl, u4⟩; obtain ⟨a4, c4, rfl⟩ := ownsRow_len u4.own; have U4 := hide u4; clear u4) | (go_at_call 73; refine (clashes_any (U k1') (U k2') WO.out.1 WO.out.2 _ _ _ _ w4 (row_below U4.out.bel U3.out.own) U4.out.own l1 l2).mono ?_; rw [hz]; rintro e w5 ⟨rfl, b5⟩; have B5 := hide b5; clear b5))
              go_roundw
              case rel => exact ⟨q + 1, by omega, by go_num, Hn.out, below_trans (below_trans (below_trans Hb2.out U3.out.bel Hb2.out.size) U4.out.bel (Nat.le_trans Hb2.out.size U3.out.bel.size)) B5.out (Nat.le_trans Hb2.out.size (Nat.le_trans U3.out.bel.size U4.out.bel.size))⟩
              case measure => simp [intOf]; omega
          · have hqe : q = i := by omega
            subst hqe
            have Hn : Hid (NoTwo U n.kids (q + 1)) := hide (by
              intro a ha c hc
              rcases Nat.lt_or_ge a q with y | y
              · exact Hf.out a y c hc
              · have : a = q := by omega
                subst this
                exact hf2 c hc)
            have Hb2 := hide hb2
            clear hf2 hb2 hbb
            go_wp2_with fail
            go_roundw
            case rel => exact ⟨q + 1, by omega, by go_num, Hn.out, Hb2.out⟩
            case measure => simp [intOf]; omega
      · exact absurd (show NoTwo U n.kids n.kids.length by rw [show n.kids.length = i by omega]; exact hf) Hno.out
end Go.Proofs.YtnhidaamfnjdjaaGreatDoor
