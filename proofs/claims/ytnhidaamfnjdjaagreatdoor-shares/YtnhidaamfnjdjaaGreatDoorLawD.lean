import Derived.Test.YtnhidaamfnjdjaaGreatDoorLawC
namespace Go.Proofs.YtnhidaamfnjdjaaGreatDoor
open Go.RowKit Go.Maps

set_option maxRecDepth 100000 in
set_option maxHeartbeats 4000000 in
theorem Shares_any (x1 x2 x3 x4 x5 : Int) (r1 : -9223372036854775808 ≤ x1 ∧ x1 ≤ 9223372036854775807) (r2 : -9223372036854775808 ≤ x2 ∧ x2 ≤ 9223372036854775807) (r3 : -9223372036854775808 ≤ x3 ∧ x3 ≤ 9223372036854775807) (r4 : -9223372036854775808 ≤ x4 ∧ x4 ≤ 9223372036854775807) (r5 : -9223372036854775808 ≤ x5 ∧ x5 ≤ 9223372036854775807)
    (w : World) (m : Int) (hm : w.cell? ⟨0, 0, none⟩ = some (.int .i64 m)) :
    Calls Tryz.prog 6 #[.int .i64 x1, .int .i64 x2, .int .i64 x3, .int .i64 x4, .int .i64 x5] w fun e w' => e = .returned (.bool true) ∧ Below w.heap.size w w' := by
  have h0 := cell_lt hm
  have p1 := pick_any x1 r1.1 r1.2
  have l1 := pickF_lt x1
  have p2 := pick_any x2 r2.1 r2.2
  have l2 := pickF_lt x2
  have p3 := pick_any x3 r3.1 r3.2
  have l3 := pickF_lt x3
  have p4 := pick_any x4 r4.1 r4.2
  have l4 := pickF_lt x4
  have p5 := pick_any x5 r5.1 r5.2
  have l5 := pickF_lt x5
  generalize pickF x1 = x at *
  generalize pickF x2 = y at *
  generalize pickF x3 = u at *
  generalize pickF x4 = v at *
  generalize pickF x5 = h at *
  have P1 := hide p1; have P2 := hide p2; have P3 := hide p3; have P4 := hide p4; have P5 := hide p5
  clear p1 p2 p3 p4 p5 r1 r2 r3 r4 r5
  have Hm := hide hm
  clear hm
  have i1 : (x : Int) < 3 := by omega
  have i2 : (y : Int) < 3 := by omega
  have i3 : (u : Int) < 3 := by omega
  have i4 : (v : Int) < 3 := by omega
  have i5 : (h : Int) < 3 := by omega
  obtain ⟨cW, cA, cB, cC, cD, gr, zr⟩ := shW_cells w x y u v h l1 l2 l3 l4 l5
  have oW := opt_len optW h (by decide)
  have oA := opt_len optA x (by decide)
  have oB := opt_len optB y (by decide)
  have oC := opt_len optC u (by decide)
  have oD := opt_len optD v (by decide)
  have main := all243 x y u v h l1 l2 l3 l4 l5
  have mlen := sText_len x y u v h l1 l2 l3 l4 l5
  have eT : sText x y u v h = sText x y u v h := rfl
  conv at eT => rhs; unfold sText headS
  generalize hsW : optW.getD h [] = sW at *
  have HsW := hide hsW
  clear hsW
  generalize optA.getD x [] = sA at *
  generalize optB.getD y [] = sB at *
  generalize optC.getD u [] = sC at *
  generalize optD.getD v [] = sD at *
  have z0 : (lineS 0 [118, 97, 114, 32, 120]).size ≤ 30 := by rw [lineS_size]; decide
  have z1 : (lineS 1 [118, 97, 114, 32, 121]).size ≤ 30 := by rw [lineS_size]; decide
  have z2 : (lineS 2 [118, 97, 114, 32, 122]).size ≤ 30 := by rw [lineS_size]; decide
  have z3 : (lineS 3 [99, 104, 97, 110, 32, 107]).size ≤ 30 := by rw [lineS_size]; decide
  have z5 : (lineS 5 [115, 101, 113]).size ≤ 30 := by rw [lineS_size]; decide
  have zsW : (lineS 4 sW).size ≤ 30 := by rw [lineS_size]; omega
  have zsA : (lineS 6 sA).size ≤ 30 := by rw [lineS_size]; omega
  have zsB : (lineS 6 sB).size ≤ 30 := by rw [lineS_size]; omega
  have zsC : (lineS 6 sC).size ≤ 30 := by rw [lineS_size]; omega
  have zsD : (lineS 6 sD).size ≤ 30 := by rw [lineS_size]; omega
  have Gr := hide gr; have Main := hide main; have ET := hide eT; have Mlen := hide mlen
  clear gr main eT mlen
  have K5 := hide (kline_at ⟨#[115, 101, 113]⟩ [115, 101, 113] rfl 5 5 rfl (by decide) (by decide))
  have KA := hide (kline_at ⟨sA.toArray⟩ sA rfl 6 6 rfl (by decide) (by omega))
  have KB := hide (kline_at ⟨sB.toArray⟩ sB rfl 6 6 rfl (by decide) (by omega))
  have KC := hide (kline_at ⟨sC.toArray⟩ sC rfl 6 6 rfl (by decide) (by omega))
  have KD := hide (kline_at ⟨sD.toArray⟩ sD rfl 6 6 rfl (by decide) (by omega))
  go_enter Tryz.func6, Tryz.ntmps6
  go_wp2_with fail
  refine (P1.out _).mono ?_
  rintro e wx ⟨rfl, hw⟩
  have hw := hw.symm
  subst hw
  go_wp2_with fail
  refine (P2.out _).mono ?_
  rintro e wx ⟨rfl, hw⟩
  have hw := hw.symm
  subst hw
  go_wp2_with fail
  refine (P3.out _).mono ?_
  rintro e wx ⟨rfl, hw⟩
  have hw := hw.symm
  subst hw
  go_wp2_with fail
  refine (P4.out _).mono ?_
  rintro e wx ⟨rfl, hw⟩
  have hw := hw.symm
  subst hw
  go_wp2_with fail
  refine (P5.out _).mono ?_
  rintro e wx ⟨rfl, hw⟩
  have hw := hw.symm
  subst hw
  go_wp2_with fail
  refine (kline_at ⟨#[118, 97, 114, 32, 120]⟩ [118, 97, 114, 32, 120] rfl 0 0 rfl (by decide) (by decide) _).mono ?_
  rintro e wx ⟨rfl, hw⟩
  have hw := hw.symm
  subst hw
  go_wp2_with fail
  refine (kline_at ⟨#[118, 97, 114, 32, 121]⟩ [118, 97, 114, 32, 121] rfl 1 1 rfl (by decide) (by decide) _).mono ?_
  rintro e wx ⟨rfl, hw⟩
  have hw := hw.symm
  subst hw
  go_wp2_with fail
  refine (kline_at ⟨#[118, 97, 114, 32, 122]⟩ [118, 97, 114, 32, 122] rfl 2 2 rfl (by decide) (by decide) _).mono ?_
  rintro e wx ⟨rfl, hw⟩
  have hw := hw.symm
  subst hw
  go_wp2_with fail
  refine (kline_at ⟨#[99, 104, 97, 110, 32, 107]⟩ [99, 104, 97, 110, 32, 107] rfl 3 3 rfl (by decide) (by decide) _).mono ?_
  rintro e wx ⟨rfl, hw⟩
  have hw := hw.symm
  subst hw
  go_wp2_with fail
  refine (kline_at ⟨sW.toArray⟩ sW rfl 4 4 rfl (by decide) (by omega) _).mono ?_
  rintro e wx ⟨rfl, hw⟩
  have hw := hw.symm
  subst hw
  go_wp2_with fail
  go_big_quiet (first
    | (go_at_call 18; with_reducible refine Calls.quiet_of_same (K5.out _))
    | (go_at_call 18; with_reducible refine Calls.quiet_of_same (KA.out _))
    | (go_at_call 18; with_reducible refine Calls.quiet_of_same (KC.out _)))
  have hW2 : ∃ W2 : World, W2 = (shW w).drewN nq := ⟨_, rfl⟩
  obtain ⟨W2, hW2⟩ := hW2
  have cB2 : W2.cell? ⟨w.heap.size + 1 + 1, y, none⟩ = some (.string ⟨sB.toArray⟩) := by rw [hW2]; exact cB
  have cD2 : W2.cell? ⟨w.heap.size + 1 + 1 + 1 + 1, v, none⟩ = some (.string ⟨sD.toArray⟩) := by rw [hW2]; exact cD
  have gr2 : w.grownBy W2 none := by rw [hW2]; exact ⟨Gr.out.os, Gr.out.tape, Gr.out.output, Gr.out.size, Gr.out.block⟩
  have Gr2 := hide gr2
  clear gr2
  rw [← hW2]
  clear hW2 cA cB cC cD cW
  go_wp2_with fail
  go_big_quiet (first
    | (go_at_call 18; with_reducible refine Calls.quiet_of_same (K5.out _))
    | (go_at_call 18; with_reducible refine Calls.quiet_of_same (KB.out _))
    | (go_at_call 18; with_reducible refine Calls.quiet_of_same (KD.out _)))
  go_wp2_with fail
  have cm2 : W2.cell? ⟨0, 0, none⟩ = some (.int .i64 m) := cell_grown Hm.out Gr2.out (by simp)
  refine (Check_at _ (sText x y u v h) (by rw [ET.out]; simp only [lineS, ba_append]) _ Main.out Mlen.out (W2.drewN nq) m (by exact cm2)).mono ?_
  rintro e w3 ⟨rfl, b3⟩
  have hlt2 : 0 < (W2.drewN nq).heap.size := Nat.lt_of_lt_of_le h0 Gr2.out.size
  have aw := awake_any w3 m (cell_below (w := W2.drewN nq) (by exact cm2) b3 hlt2)
  have b03 : Below w.heap.size w w3 := ⟨b3.os.trans Gr2.out.os, b3.tape.trans Gr2.out.tape, b3.output.trans Gr2.out.output, Nat.le_trans Gr2.out.size b3.size, fun k hk => (b3.block k (Nat.lt_of_lt_of_le hk Gr2.out.size)).trans (Gr2.out.block k hk (by simp))⟩
  have Aw := hide aw; have B03 := hide b03
  clear aw b03 b3 cm2 hlt2 Main ET Mlen K5 KA KB KC KD P1 P2 P3 P4 P5 Gr Gr2 Hm cB2 cD2
  generalize hR : rightS x y u v h = R
  have HR := hide hR
  clear hR
  generalize lineS 0 [118, 97, 114, 32, 120] = q0 at *
  generalize lineS 1 [118, 97, 114, 32, 121] = q1 at *
  go_wp2_with fail
  refine Aw.out.mono ?_
  rintro e w4 ⟨rfl, b4⟩
  have b04 : Below w.heap.size w w4 := B03.out.trans ⟨b4.os, b4.tape, b4.output, b4.size, fun k hk => b4.block k (Nat.lt_of_lt_of_le hk B03.out.size)⟩
  have B04 := hide b04
  clear b4 b04 Aw B03
  have d1 : x = 0 ∨ x = 1 ∨ x = 2 := by omega
  have d2 : y = 0 ∨ y = 1 ∨ y = 2 := by omega
  have d3 : u = 0 ∨ u = 1 ∨ u = 2 := by omega
  have d4 : v = 0 ∨ v = 1 ∨ v = 2 := by omega
  have d5 : (h = 0 ∧ sW = [112, 97, 114]) ∨ (h = 1 ∧ sW = [112, 114, 105]) ∨ (h = 2 ∧ sW = [115, 101, 113]) := by
    have hs := HsW.out
    have : h = 0 ∨ h = 1 ∨ h = 2 := by omega
    rcases this with rfl | rfl | rfl
    · exact .inl ⟨rfl, hs.symm⟩
    · exact .inr (.inl ⟨rfl, hs.symm⟩)
    · exact .inr (.inr ⟨rfl, hs.symm⟩)
  clear HsW z0 z1 z2 z3 z5 zsW zsA zsB zsC zsD oW oA oB oC oD i1 i2 i3 i4 i5 l1 l2 l3 l4 l5
  have rT : ∀ x y u v h, clashS x y u v = true → rightS x y u v h = if h != 2 then (5, 5) else (0, 0) := by
    intro x y u v h hc
    unfold rightS
    rw [hc]; rfl
  have rF : ∀ x y u v h, clashS x y u v = false → rightS x y u v h = (0, 0) := by
    intro x y u v h hc
    unfold rightS
    rw [hc]; rfl
  rcases d1 with rfl | rfl | rfl
  · rcases d2 with rfl | rfl | rfl
    · have hc := rT 0 0 u v h (by simp [clashS])
      clear rT rF d3 d4
      rcases d5 with ⟨rfl, rfl⟩ | ⟨rfl, rfl⟩ | ⟨rfl, rfl⟩
      all_goals
        rw [hc] at HR
        have hR := HR.out
        clear HR
        subst hR
        go_wp2_with fail
        go_ret
        exact ⟨rfl, B04.out⟩
    · have hc := rT 0 1 u v h (by simp [clashS])
      clear rT rF d3 d4
      rcases d5 with ⟨rfl, rfl⟩ | ⟨rfl, rfl⟩ | ⟨rfl, rfl⟩
      all_goals
        rw [hc] at HR
        have hR := HR.out
        clear HR
        subst hR
        go_wp2_with fail
        go_ret
        exact ⟨rfl, B04.out⟩
    · by_cases hu0 : u = 0
      · subst hu0
        by_cases hv0 : v = 0
        · subst hv0
          have hc := rT 0 2 0 0 h (by simp [clashS])
          clear rT rF d3 d4
          rcases d5 with ⟨rfl, rfl⟩ | ⟨rfl, rfl⟩ | ⟨rfl, rfl⟩
          all_goals
            rw [hc] at HR
            have hR := HR.out
            clear HR
            subst hR
            go_wp2_with fail
            go_ret
            exact ⟨rfl, B04.out⟩
        · have hc := rF 0 2 0 v h (by simp [clashS, hv0])
          clear rT rF d3 d4 d5
          rw [hc] at HR
          have hR := HR.out
          clear HR
          subst hR
          go_wp2_with fail
          go_ret
          exact ⟨rfl, B04.out⟩
      · by_cases hu1 : u = 1
        · subst hu1
          by_cases hv1 : v = 1
          · subst hv1
            have hc := rT 0 2 1 1 h (by simp [clashS])
            clear rT rF d3 d4 hu0
            rcases d5 with ⟨rfl, rfl⟩ | ⟨rfl, rfl⟩ | ⟨rfl, rfl⟩
            all_goals
              rw [hc] at HR
              have hR := HR.out
              clear HR
              subst hR
              go_wp2_with fail
              go_ret
              exact ⟨rfl, B04.out⟩
          · have hc := rF 0 2 1 v h (by simp [clashS, hv1])
            clear rT rF d3 d4 d5 hu0
            rw [hc] at HR
            have hR := HR.out
            clear HR
            subst hR
            go_wp2_with fail
            go_ret
            exact ⟨rfl, B04.out⟩
        · have hc := rF 0 2 u v h (by simp [clashS, hu0, hu1])
          clear rT rF d3 d4 d5
          rw [hc] at HR
          have hR := HR.out
          clear HR
          subst hR
          go_wp2_with fail
          go_ret
          exact ⟨rfl, B04.out⟩
  · by_cases hy0 : y = 0
    · subst hy0
      have hc := rT 1 0 u v h (by simp [clashS])
      clear rT rF d3 d4
      rcases d5 with ⟨rfl, rfl⟩ | ⟨rfl, rfl⟩ | ⟨rfl, rfl⟩
      all_goals
        rw [hc] at HR
        have hR := HR.out
        clear HR
        subst hR
        go_wp2_with fail
        go_ret
        exact ⟨rfl, B04.out⟩
    · by_cases hu0 : u = 0
      · subst hu0
        by_cases hv0 : v = 0
        · subst hv0
          have hc := rT 1 y 0 0 h (by simp [clashS])
          clear rT rF d3 d4
          rcases d5 with ⟨rfl, rfl⟩ | ⟨rfl, rfl⟩ | ⟨rfl, rfl⟩
          all_goals
            rw [hc] at HR
            have hR := HR.out
            clear HR
            subst hR
            go_wp2_with fail
            go_ret
            exact ⟨rfl, B04.out⟩
        · have hc := rF 1 y 0 v h (by simp [clashS, hv0, hy0])
          clear rT rF d3 d4 d5
          rw [hc] at HR
          have hR := HR.out
          clear HR
          subst hR
          go_wp2_with fail
          go_ret
          exact ⟨rfl, B04.out⟩
      · by_cases hu1 : u = 1
        · subst hu1
          by_cases hv1 : v = 1
          · subst hv1
            have hc := rT 1 y 1 1 h (by simp [clashS])
            clear rT rF d3 d4 hu0
            rcases d5 with ⟨rfl, rfl⟩ | ⟨rfl, rfl⟩ | ⟨rfl, rfl⟩
            all_goals
              rw [hc] at HR
              have hR := HR.out
              clear HR
              subst hR
              go_wp2_with fail
              go_ret
              exact ⟨rfl, B04.out⟩
          · have hc := rF 1 y 1 v h (by simp [clashS, hv1, hy0])
            clear rT rF d3 d4 d5 hu0
            rw [hc] at HR
            have hR := HR.out
            clear HR
            subst hR
            go_wp2_with fail
            go_ret
            exact ⟨rfl, B04.out⟩
        · have hc := rF 1 y u v h (by simp [clashS, hu0, hu1, hy0])
          clear rT rF d3 d4 d5
          rw [hc] at HR
          have hR := HR.out
          clear HR
          subst hR
          go_wp2_with fail
          go_ret
          exact ⟨rfl, B04.out⟩
  · by_cases hu0 : u = 0
    · subst hu0
      by_cases hv0 : v = 0
      · subst hv0
        have hc := rT 2 y 0 0 h (by simp [clashS])
        clear rT rF d3 d4
        rcases d5 with ⟨rfl, rfl⟩ | ⟨rfl, rfl⟩ | ⟨rfl, rfl⟩
        all_goals
          rw [hc] at HR
          have hR := HR.out
          clear HR
          subst hR
          go_wp2_with fail
          go_ret
          exact ⟨rfl, B04.out⟩
      · have hc := rF 2 y 0 v h (by simp [clashS, hv0])
        clear rT rF d3 d4 d5
        rw [hc] at HR
        have hR := HR.out
        clear HR
        subst hR
        go_wp2_with fail
        go_ret
        exact ⟨rfl, B04.out⟩
    · by_cases hu1 : u = 1
      · subst hu1
        by_cases hv1 : v = 1
        · subst hv1
          have hc := rT 2 y 1 1 h (by simp [clashS])
          clear rT rF d3 d4 hu0
          rcases d5 with ⟨rfl, rfl⟩ | ⟨rfl, rfl⟩ | ⟨rfl, rfl⟩
          all_goals
            rw [hc] at HR
            have hR := HR.out
            clear HR
            subst hR
            go_wp2_with fail
            go_ret
            exact ⟨rfl, B04.out⟩
        · have hc := rF 2 y 1 v h (by simp [clashS, hv1])
          clear rT rF d3 d4 d5 hu0
          rw [hc] at HR
          have hR := HR.out
          clear HR
          subst hR
          go_wp2_with fail
          go_ret
          exact ⟨rfl, B04.out⟩
      · have hc := rF 2 y u v h (by simp [clashS, hu0, hu1])
        clear rT rF d3 d4 d5
        rw [hc] at HR
        have hR := HR.out
        clear HR
        subst hR
        go_wp2_with fail
        go_ret
        exact ⟨rfl, B04.out⟩
end Go.Proofs.YtnhidaamfnjdjaaGreatDoor
