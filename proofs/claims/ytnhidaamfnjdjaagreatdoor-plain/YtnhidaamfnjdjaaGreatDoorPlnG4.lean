import Derived.Test.YtnhidaamfnjdjaaGreatDoorPlnF
/- PLAIN: the law, walked: y < x ∧ y = 0. Written by wip/genpln.py. -/
namespace Go.Proofs.YtnhidaamfnjdjaaGreatDoor
open Go.RowKit Go.Maps

set_option maxRecDepth 20000 in
set_option maxHeartbeats 8000000 in
theorem Plain_gtz (x1 x2 : Int) (r1 : -9223372036854775808 ≤ x1 ∧ x1 ≤ 9223372036854775807) (r2 : -9223372036854775808 ≤ x2 ∧ x2 ≤ 9223372036854775807) (w : World) (m : Int) (hm : w.cell? ⟨0, 0, none⟩ = some (.int .i64 m)) (x y : Nat) (e1 : pickN x1 10000000 = x) (e2 : pickN x2 10000000 = y) (hxy : y < x ∧ y = 0) :
    Calls Tryz.prog 8 #[.int .i64 x1, .int .i64 x2] w fun e w' => e = .returned (.bool true) ∧ Below w.heap.size w w' := by
  have h0 := cell_lt hm
  have hx : x < 10000000 := by rw [← e1]; exact pickN_lt x1 10000000 (by decide)
  have hy : y < 10000000 := by rw [← e2]; exact pickN_lt x2 10000000 (by decide)
  have P1 := hide (pickN_at x1 r1.1 r1.2 10000000 (by decide) (by decide) 10000000 rfl x e1)
  have P2 := hide (pickN_at x2 r2.1 r2.2 10000000 (by decide) (by decide) 10000000 rfl y e2)
  have hk := pickN_lt x1 30 (by decide)
  generalize e3 : pickN x1 30 = k at *
  have P3 := hide (pickN_at x1 r1.1 r1.2 30 (by decide) (by decide) 30 rfl k e3)
  have N1 := hide (numX_at x hx x rfl)
  have N2 := hide (numX_at y hy y rfl)
  have N3 := hide (numX_at k (by omega) k rfl)
  have eA : plOutA (x : Int) (y : Int) = [(x : Int) + y, (x : Int) - y, (x : Int) * y, 0, 0, 1] := by
    rw [plOutA_is x y hx hy, if_neg (by omega), if_neg (by omega), if_pos (by omega)]
  have T1 := hide (fun (b : ByteArray) (hb : b = ⟨(itText (plA x y)).toArray⟩) => told_at (codeA x y) (plA_ok x y hx hy) (plA_len x y) (runA x y) (by decide) (xr := default) rfl rfl rfl b hb w m hm 6 rfl [(x : Int) + y, (x : Int) - y, (x : Int) * y, 0, 0, 1] eA)
  have L2 := hide (fun (b : ByteArray) (hb : b = ⟨(itText (plB x y)).toArray⟩) (w : World) (hm : w.cell? ⟨0, 0, none⟩ = some (.int .i64 m)) => load_at (codeB x y) (plB_ok x y hx hy) (plB_len x y) b hb w m hm)
  have Hm := hide hm
  have z1 := digX_len x
  have z2 := digX_len y
  have zs : (⟨(digX x).toArray⟩ : ByteArray).size ≤ 7 := by rw [bsz]; exact z1
  have zt : (⟨(digX y).toArray⟩ : ByteArray).size ≤ 7 := by rw [bsz]; exact z2
  have K0 := hide (ln_at ⟨#[115, 101, 113]⟩ [115, 101, 113] rfl 0 0 rfl (by decide) (by decide))
  have s0 : (lnS 0 [115, 101, 113]).size ≤ 60 := by rw [lnS_size]; decide
  have K1 := hide (ln_at (⟨#[111, 117, 116, 32, 33, 32]⟩ ++ ⟨(digX x).toArray⟩ ++ ⟨#[32, 43, 32]⟩ ++ ⟨(digX y).toArray⟩) (opLine 43 (digX x) (digX y)) (opLine_at 43 (digX x) (digX y)) 1 1 rfl (by decide) (by have := opLine_len 43 x y; omega))
  have s1 : (lnS 1 (opLine 43 (digX x) (digX y))).size ≤ 60 := by rw [lnS_size]; have := opLine_len 43 x y; omega
  have K2 := hide (ln_at (⟨#[111, 117, 116, 33]⟩ ++ ⟨(digX x).toArray⟩ ++ ⟨#[45]⟩ ++ ⟨(digX y).toArray⟩) (subLine (digX x) (digX y)) (subLine_at (digX x) (digX y)) 1 1 rfl (by decide) (by have := subLine_len x y; omega))
  have s2 : (lnS 1 (subLine (digX x) (digX y))).size ≤ 60 := by rw [lnS_size]; have := subLine_len x y; omega
  have K3 := hide (ln_at (⟨#[111, 117, 116, 32, 33, 32, 40]⟩ ++ ⟨(digX x).toArray⟩ ++ ⟨#[41, 32, 42, 32, 40, 40]⟩ ++ ⟨(digX y).toArray⟩ ++ ⟨#[41, 41]⟩) (mulLine (digX x) (digX y)) (mulLine_at (digX x) (digX y)) 1 1 rfl (by decide) (by have := mulLine_len x y; omega))
  have s3 : (lnS 1 (mulLine (digX x) (digX y))).size ≤ 60 := by rw [lnS_size]; have := mulLine_len x y; omega
  have K4 := hide (ln_at (⟨#[111, 117, 116, 32, 33, 32]⟩ ++ ⟨(digX x).toArray⟩ ++ ⟨#[32, 61, 32]⟩ ++ ⟨(digX y).toArray⟩) (opLine 61 (digX x) (digX y)) (opLine_at 61 (digX x) (digX y)) 1 1 rfl (by decide) (by have := opLine_len 61 x y; omega))
  have s4 : (lnS 1 (opLine 61 (digX x) (digX y))).size ≤ 60 := by rw [lnS_size]; have := opLine_len 61 x y; omega
  have K5 := hide (ln_at (⟨#[111, 117, 116, 32, 33, 32]⟩ ++ ⟨(digX x).toArray⟩ ++ ⟨#[32, 60, 32]⟩ ++ ⟨(digX y).toArray⟩) (opLine 60 (digX x) (digX y)) (opLine_at 60 (digX x) (digX y)) 1 1 rfl (by decide) (by have := opLine_len 60 x y; omega))
  have s5 : (lnS 1 (opLine 60 (digX x) (digX y))).size ≤ 60 := by rw [lnS_size]; have := opLine_len 60 x y; omega
  have K6 := hide (ln_at (⟨#[111, 117, 116, 32, 33, 32]⟩ ++ ⟨(digX x).toArray⟩ ++ ⟨#[32, 62, 32]⟩ ++ ⟨(digX y).toArray⟩) (opLine 62 (digX x) (digX y)) (opLine_at 62 (digX x) (digX y)) 1 1 rfl (by decide) (by have := opLine_len 62 x y; omega))
  have s6 : (lnS 1 (opLine 62 (digX x) (digX y))).size ≤ 60 := by rw [lnS_size]; have := opLine_len 62 x y; omega
  have K7 := hide (ln_at (⟨#[111, 117, 116, 32, 33, 32]⟩ ++ ⟨(digX x).toArray⟩ ++ ⟨#[32, 47, 32]⟩ ++ ⟨(digX y).toArray⟩) (opLine 47 (digX x) (digX y)) (opLine_at 47 (digX x) (digX y)) 1 1 rfl (by decide) (by have := opLine_len 47 x y; omega))
  have s7 : (lnS 1 (opLine 47 (digX x) (digX y))).size ≤ 60 := by rw [lnS_size]; have := opLine_len 47 x y; omega
  have K8 := hide (ln_at (⟨#[111, 117, 116, 32, 33, 32, 40, 48, 32, 45, 32]⟩ ++ ⟨(digX x).toArray⟩ ++ ⟨#[41, 32, 37, 32]⟩ ++ ⟨(digX y).toArray⟩) (modLine (digX x) (digX y)) (modLine_at (digX x) (digX y)) 1 1 rfl (by decide) (by have := modLine_len x y; omega))
  have s8 : (lnS 1 (modLine (digX x) (digX y))).size ≤ 60 := by rw [lnS_size]; have := modLine_len x y; omega
  generalize g0 : lnS 0 [115, 101, 113] = L0 at *
  generalize g1 : lnS 1 (opLine 43 (digX x) (digX y)) = M1 at *
  generalize g2 : lnS 1 (subLine (digX x) (digX y)) = M2 at *
  generalize g3 : lnS 1 (mulLine (digX x) (digX y)) = M3 at *
  generalize g4 : lnS 1 (opLine 61 (digX x) (digX y)) = M4 at *
  generalize g5 : lnS 1 (opLine 60 (digX x) (digX y)) = M5 at *
  generalize g6 : lnS 1 (opLine 62 (digX x) (digX y)) = M6 at *
  generalize g7 : lnS 1 (opLine 47 (digX x) (digX y)) = M7 at *
  generalize g8 : lnS 1 (modLine (digX x) (digX y)) = M8 at *
  have E1 := hide (show L0 ++ M1 ++ M2 ++ M3 ++ M4 ++ M5 ++ M6 = ⟨(itText (plA x y)).toArray⟩ by rw [← g0, ← g1, ← g2, ← g3, ← g4, ← g5, ← g6]; simp only [lnS, ba_append]; simp only [itText, plA, flatL, kL, Itm.line, List.map_cons, List.map_nil, List.flatMap_cons, List.flatMap_nil, List.append_assoc, List.append_nil])
  have E2 := hide (show L0 ++ M7 ++ M8 = ⟨(itText (plB x y)).toArray⟩ by rw [← g0, ← g7, ← g8]; simp only [lnS, ba_append]; simp only [itText, plB, flatL, kL, Itm.line, List.map_cons, List.map_nil, List.flatMap_cons, List.flatMap_nil, List.append_assoc, List.append_nil])
  clear g0 g1 g2 g3 g4 g5 g6 g7 g8 z1 z2 e1 e2 e3 eA hm
  generalize (⟨(digX x).toArray⟩ : ByteArray) = bs at *
  generalize (⟨(digX y).toArray⟩ : ByteArray) = bt at *
  have HX := hide hxy
  have hlt : y < x := hxy.1
  clear hxy
  have cxy : ((x : Int) == (y : Int)) = false := by simp; omega
  go_enter Tryz.func8, Tryz.ntmps8
  go_wp2_with fail
  refine (P1.out _).mono ?_
  rintro e wx ⟨rfl, hw⟩
  have hw := hw.symm
  subst hw
  go_wp2_with fail
  refine (P2.out _).mono ?_
  rintro e wx ⟨rfl, hw⟩
  have hw := hw.symm
  subst hw
  go_wp2_with fail
  refine (N1.out _).mono ?_
  rintro e wx ⟨rfl, hw⟩
  have hw := hw.symm
  subst hw
  go_wp2_with fail
  refine (N2.out _).mono ?_
  rintro e wx ⟨rfl, hw⟩
  have hw := hw.symm
  subst hw
  clear P1 P2 N1 N2
  go_wp2_with (go_at_call 18; (first | with_reducible refine (K0.out _).mono ?_ | with_reducible refine (K1.out _).mono ?_ | with_reducible refine (K2.out _).mono ?_ | with_reducible refine (K3.out _).mono ?_ | with_reducible refine (K4.out _).mono ?_ | with_reducible refine (K5.out _).mono ?_ | with_reducible refine (K6.out _).mono ?_); rintro e wx ⟨rfl, hw⟩; have hw := hw.symm; subst hw)
  refine (T1.out _ E1.out).mono ?_
  rintro e w1 ⟨va, cc, rfl, q1, b1⟩
  have Q1 := hide q1
  have B1 := hide b1
  clear q1 b1 T1 E1 K1 K2 K3 K4 K5 K6 s1 s2 s3 s4 s5 s6
  go_wp2_with fail
  have wm : wrap64 ((x : Int) * (y : Int)) = (x : Int) * y := mul_in x y hx hy
  rw [wm]
  clear wm
  refine (same_true (w1.alloc (.cells #[.int .i64 ((x : Int) + y), .int .i64 ((x : Int) - y), .int .i64 ((x : Int) * y), .int .i64 0, .int .i64 0, .int .i64 1] 3)) va (some ⟨w1.heap.size, 0, none⟩) cc 6 [(x : Int) + y, (x : Int) - y, (x : Int) * y, 0, 0, 1] (by simp) (rowI_alloc Q1.out rfl _) (rowI_new w1 [(x : Int) + y, (x : Int) - y, (x : Int) * y, 0, 0, 1]) 6 rfl).mono ?_
  rintro e w2 ⟨rfl, j2, hj2⟩
  have b2 : Below w.heap.size w w2 := by rw [hj2]; exact below_alloc B1.out B1.out.size _ _
  have B2 := hide b2
  have cm2 := hide (cell_of_block Hm.out (b2.block 0 h0))
  have l2 := Nat.lt_of_lt_of_le h0 b2.size
  clear b2 hj2 Q1 B1
  go_wp2_with (go_at_call 18; (first | with_reducible refine (K0.out _).mono ?_ | with_reducible refine (K7.out _).mono ?_ | with_reducible refine (K8.out _).mono ?_); rintro e wx ⟨rfl, hw⟩; have hw := hw.symm; subst hw)
  refine (L2.out _ E2.out _ cm2.out).mono ?_
  rintro e w3 ⟨lb, mb, ρ, V, rfl, k3, b3, j3⟩
  have e0 : (y : Int) = 0 := by have := HX.out.2; omega
  rw [e0] at k3
  have cy0 : ((y : Int) == 0) = true := by rw [e0]; rfl
  clear e0
  have rr : Calls Tryz.prog 25 #[.pointer (some ⟨lb, 0, none⟩), .int .i64 5] w3 fun e w' => e = .returned (.tuple #[.int .i64 1, .int .i64 5]) ∧ ∃ ρ' V', Shut w' lb mb ρ' (plCB x 0) V' plFault ∧ MsGo V V' ρ ρ' w3 w' := sRun_any (ns := true) (runB0 x) (by decide) (by simp [plCB]) (by simp [plCB]) (xr := default) rfl rfl (fun h => by cases h) (fun h => by cases h) w3 k3
  have RR := hide rr
  have B3 := hide b3
  have J3 := hide j3
  clear k3 b3 j3 rr L2 E2 K7 K8 s7 s8
  go_wp2_with fail
  refine RR.out.mono ?_
  rintro e w4 ⟨rfl, ρ4, V4, k4, g4⟩
  obtain ⟨vb, cb, hv⟩ := (k4.ms.out (fun x => x)).1.len
  have O := hide (sOut_any w4 k4)
  rw [hv, show (plFault.out.map intV).length = 0 from rfl] at O
  have G4 := hide g4
  clear k4 g4 hv RR
  go_wp2_with fail
  refine O.out.mono ?_
  rintro e w5 ⟨rfl, q5, k5, g5⟩
  have gg := G4.out.trans g5
  have b5 : Below w.heap.size w w5 := below_go B2.out B2.out.size B3.out gg J3.out
  have B5 := hide b5
  have Q5 := hide q5
  clear b5 gg q5 k5 g5 G4 O B2 B3 J3
  go_wp2
  go_ret
  exact ⟨rfl, B5.out⟩
end Go.Proofs.YtnhidaamfnjdjaaGreatDoor
