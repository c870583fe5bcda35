import Derived.Test.YtnhidaamfnjdjaaGreatDoorPlnF
/- PLAIN: the law, walked: x < y. Written by wip/genpln.py. -/
namespace Go.Proofs.YtnhidaamfnjdjaaGreatDoor
open Go.RowKit Go.Maps

set_option maxRecDepth 20000 in
set_option maxHeartbeats 8000000 in
theorem Plain_lt (x1 x2 : Int) (r1 : -9223372036854775808 ≤ x1 ∧ x1 ≤ 9223372036854775807) (r2 : -9223372036854775808 ≤ x2 ∧ x2 ≤ 9223372036854775807) (w : World) (m : Int) (hm : w.cell? ⟨0, 0, none⟩ = some (.int .i64 m)) (x y : Nat) (e1 : pickN x1 10000000 = x) (e2 : pickN x2 10000000 = y) (hxy : x < y) :
    Calls Tryz.prog 8 #[.int .i64 x1, .int .i64 x2] w fun e w' => e = .returned (.bool true) ∧ Below w.heap.size w w' := by
  have h0 := cell_lt hm
  have hx : x < 10000000 := by rw [← e1]; exact pickN_lt x1 10000000 (by decide)
  have hy : y < 10000000 := by rw [← e2]; exact pickN_lt x2 10000000 (by decide)
  have P1 := hide (pickN_at x1 r1.1 r1.2 10000000 (by decide) (by decide) 10000000 rfl x e1)
  have P2 := hide (pickN_at x2 r2.1 r2.2 10000000 (by decide) (by decide) 10000000 rfl y e2)
  have hk := pickN_lt x1 30 (by decide)
  generalize e3 : pickN x1 30 = k at *
  have P3 := hide (pickN_at x1 r1.1 r1.2 30 (by decide) (by decide) 30 rfl k e3)
  have N1 := hide (numX_at x hx x rfl)
  have N2 := hide (numX_at y hy y rfl)
  have N3 := hide (numX_at k (by omega) k rfl)
  have eA : plOutA (x : Int) (y : Int) = [(x : Int) + y, (x : Int) - y, (x : Int) * y, 0, 1, 0] := by
    rw [plOutA_is x y hx hy, if_neg (by omega), if_pos (by omega), if_neg (by omega)]
  have T1 := hide (fun (b : ByteArray) (hb : b = ⟨(itText (plA x y)).toArray⟩) => told_at (codeA x y) (plA_ok x y hx hy) (plA_len x y) (runA x y) (by decide) (xr := default) rfl rfl rfl b hb w m hm 6 rfl [(x : Int) + y, (x : Int) - y, (x : Int) * y, 0, 1, 0] eA)
  have L2 := hide (fun (b : ByteArray) (hb : b = ⟨(itText (plB x y)).toArray⟩) (w : World) (hm : w.cell? ⟨0, 0, none⟩ = some (.int .i64 m)) => load_at (codeB x y) (plB_ok x y hx hy) (plB_len x y) b hb w m hm)
  have Hm := hide hm
  have z1 := digX_len x
  have z2 := digX_len y
  have zs : (⟨(digX x).toArray⟩ : ByteArray).size ≤ 7 := by rw [bsz]; exact z1
  have zt : (⟨(digX y).toArray⟩ : ByteArray).size ≤ 7 := by rw [bsz]; exact z2
  have K0 := hide (ln_at ⟨#[115, 101, 113]⟩ [115, 101, 113] rfl 0 0 rfl (by decide) (by decide))
  have s0 : (lnS 0 [115, 101, 113]).size ≤ 60 := by rw [lnS_size]; decide
  have K1 := hide (ln_at (⟨#[111, 117, 116, 32, 33, 32]⟩ ++ ⟨(digX x).toArray⟩ ++ ⟨#[32, 43, 32]⟩ ++ ⟨(digX y).toArray⟩) (opLine 43 (digX x) (digX y)) (opLine_at 43 (digX x) (digX y)) 1 1 rfl (by decide) (by have := opLine_len 43 x y; omega))
  have s1 : (lnS 1 (opLine 43 (digX x) (digX y))).size ≤ 60 := by rw [lnS_size]; have := opLine_len 43 x y; omega
  have K2 := hide (ln_at (⟨#[111, 117, 116, 33]⟩ ++ ⟨(digX x).toArray⟩ ++ ⟨#[45]⟩ ++ ⟨(digX y).toArray⟩) (subLine (digX x) (digX y)) (subLine_at (digX x) (digX y)) 1 1 rfl (by decide) (by have := subLine_len x y; omega))
  have s2 : (lnS 1 (subLine (digX x) (digX y))).size ≤ 60 := by rw [lnS_size]; have := subLine_len x y; omega
  have K3 := hide (ln_at (⟨#[111, 117, 116, 32, 33, 32, 40]⟩ ++ ⟨(digX x).toArray⟩ ++ ⟨#[41, 32, 42, 32, 40, 40]⟩ ++ ⟨(digX y).toArray⟩ ++ ⟨#[41, 41]⟩) (mulLine (digX x) (digX y)) (mulLine_at (digX x) (digX y)) 1 1 rfl (by decide) (by have := mulLine_len x y; omega))
  have s3 : (lnS 1 (mulLine (digX x) (digX y))).size ≤ 60 := by rw [lnS_size]; have := mulLine_len x y; omega
  have K4 := hide (ln_at (⟨#[111, 117, 116, 32, 33, 32]⟩ ++ ⟨(digX x).toArray⟩ ++ ⟨#[32, 61, 32]⟩ ++ ⟨(digX y).toArray⟩) (opLine 61 (digX x) (digX y)) (opLine_at 61 (digX x) (digX y)) 1 1 rfl (by decide) (by have := opLine_len 61 x y; omega))
  have s4 : (lnS 1 (opLine 61 (digX x) (digX y))).size ≤ 60 := by rw [lnS_size]; have := opLine_len 61 x y; omega
  have K5 := hide (ln_at (⟨#[111, 117, 116, 32, 33, 32]⟩ ++ ⟨(digX x).toArray⟩ ++ ⟨#[32, 60, 32]⟩ ++ ⟨(digX y).toArray⟩) (opLine 60 (digX x) (digX y)) (opLine_at 60 (digX x) (digX y)) 1 1 rfl (by decide) (by have := opLine_len 60 x y; omega))
  have s5 : (lnS 1 (opLine 60 (digX x) (digX y))).size ≤ 60 := by rw [lnS_size]; have := opLine_len 60 x y; omega
  have K6 := hide (ln_at (⟨#[111, 117, 116, 32, 33, 32]⟩ ++ ⟨(digX x).toArray⟩ ++ ⟨#[32, 62, 32]⟩ ++ ⟨(digX y).toArray⟩) (opLine 62 (digX x) (digX y)) (opLine_at 62 (digX x) (digX y)) 1 1 rfl (by decide) (by have := opLine_len 62 x y; omega))
  have s6 : (lnS 1 (opLine 62 (digX x) (digX y))).size ≤ 60 := by rw [lnS_size]; have := opLine_len 62 x y; omega
  have K7 := hide (ln_at (⟨#[111, 117, 116, 32, 33, 32]⟩ ++ ⟨(digX x).toArray⟩ ++ ⟨#[32, 47, 32]⟩ ++ ⟨(digX y).toArray⟩) (opLine 47 (digX x) (digX y)) (opLine_at 47 (digX x) (digX y)) 1 1 rfl (by decide) (by have := opLine_len 47 x y; omega))
  have s7 : (lnS 1 (opLine 47 (digX x) (digX y))).size ≤ 60 := by rw [lnS_size]; have := opLine_len 47 x y; omega
  have K8 := hide (ln_at (⟨#[111, 117, 116, 32, 33, 32, 40, 48, 32, 45, 32]⟩ ++ ⟨(digX x).toArray⟩ ++ ⟨#[41, 32, 37, 32]⟩ ++ ⟨(digX y).toArray⟩) (modLine (digX x) (digX y)) (modLine_at (digX x) (digX y)) 1 1 rfl (by decide) (by have := modLine_len x y; omega))
  have s8 : (lnS 1 (modLine (digX x) (digX y))).size ≤ 60 := by rw [lnS_size]; have := modLine_len x y; omega
  generalize g0 : lnS 0 [115, 101, 113] = L0 at *
  generalize g1 : lnS 1 (opLine 43 (digX x) (digX y)) = M1 at *
  generalize g2 : lnS 1 (subLine (digX x) (digX y)) = M2 at *
  generalize g3 : lnS 1 (mulLine (digX x) (digX y)) = M3 at *
  generalize g4 : lnS 1 (opLine 61 (digX x) (digX y)) = M4 at *
  generalize g5 : lnS 1 (opLine 60 (digX x) (digX y)) = M5 at *
  generalize g6 : lnS 1 (opLine 62 (digX x) (digX y)) = M6 at *
  generalize g7 : lnS 1 (opLine 47 (digX x) (digX y)) = M7 at *
  generalize g8 : lnS 1 (modLine (digX x) (digX y)) = M8 at *
  have E1 := hide (show L0 ++ M1 ++ M2 ++ M3 ++ M4 ++ M5 ++ M6 = ⟨(itText (plA x y)).toArray⟩ by rw [← g0, ← g1, ← g2, ← g3, ← g4, ← g5, ← g6]; simp only [lnS, ba_append]; simp only [itText, plA, flatL, kL, Itm.line, List.map_cons, List.map_nil, List.flatMap_cons, List.flatMap_nil, List.append_assoc, List.append_nil])
  have E2 := hide (show L0 ++ M7 ++ M8 = ⟨(itText (plB x y)).toArray⟩ by rw [← g0, ← g7, ← g8]; simp only [lnS, ba_append]; simp only [itText, plB, flatL, kL, Itm.line, List.map_cons, List.map_nil, List.flatMap_cons, List.flatMap_nil, List.append_assoc, List.append_nil])
  clear g0 g1 g2 g3 g4 g5 g6 g7 g8 z1 z2 e1 e2 e3 eA hm
  generalize (⟨(digX x).toArray⟩ : ByteArray) = bs at *
  generalize (⟨(digX y).toArray⟩ : ByteArray) = bt at *
  have HX := hide hxy
  have hlt : x < y := hxy
  clear hxy
  have cxy : ((x : Int) == (y : Int)) = false := by simp; omega
  go_enter Tryz.func8, Tryz.ntmps8
  go_wp2_with fail
  refine (P1.out _).mono ?_
  rintro e wx ⟨rfl, hw⟩
  have hw := hw.symm
  subst hw
  go_wp2_with fail
  refine (P2.out _).mono ?_
  rintro e wx ⟨rfl, hw⟩
  have hw := hw.symm
  subst hw
  go_wp2_with fail
  refine (N1.out _).mono ?_
  rintro e wx ⟨rfl, hw⟩
  have hw := hw.symm
  subst hw
  go_wp2_with fail
  refine (N2.out _).mono ?_
  rintro e wx ⟨rfl, hw⟩
  have hw := hw.symm
  subst hw
  clear P1 P2 N1 N2
  go_wp2_with (go_at_call 18; (first | with_reducible refine (K0.out _).mono ?_ | with_reducible refine (K1.out _).mono ?_ | with_reducible refine (K2.out _).mono ?_ | with_reducible refine (K3.out _).mono ?_ | with_reducible refine (K4.out _).mono ?_ | with_reducible refine (K5.out _).mono ?_ | with_reducible refine (K6.out _).mono ?_); rintro e wx ⟨rfl, hw⟩; have hw := hw.symm; subst hw)
  refine (T1.out _ E1.out).mono ?_
  rintro e w1 ⟨va, cc, rfl, q1, b1⟩
  have Q1 := hide q1
  have B1 := hide b1
  clear q1 b1 T1 E1 K1 K2 K3 K4 K5 K6 s1 s2 s3 s4 s5 s6
  go_wp2_with fail
  have wm : wrap64 ((x : Int) * (y : Int)) = (x : Int) * y := mul_in x y hx hy
  rw [wm]
  clear wm
  refine (same_true (w1.alloc (.cells #[.int .i64 ((x : Int) + y), .int .i64 ((x : Int) - y), .int .i64 ((x : Int) * y), .int .i64 0, .int .i64 1, .int .i64 0] 3)) va (some ⟨w1.heap.size, 0, none⟩) cc 6 [(x : Int) + y, (x : Int) - y, (x : Int) * y, 0, 1, 0] (by simp) (rowI_alloc Q1.out rfl _) (rowI_new w1 [(x : Int) + y, (x : Int) - y, (x : Int) * y, 0, 1, 0]) 6 rfl).mono ?_
  rintro e w2 ⟨rfl, j2, hj2⟩
  have b2 : Below w.heap.size w w2 := by rw [hj2]; exact below_alloc B1.out B1.out.size _ _
  have B2 := hide b2
  have cm2 := hide (cell_of_block Hm.out (b2.block 0 h0))
  have l2 := Nat.lt_of_lt_of_le h0 b2.size
  clear b2 hj2 Q1 B1
  go_wp2_with (go_at_call 18; (first | with_reducible refine (K0.out _).mono ?_ | with_reducible refine (K7.out _).mono ?_ | with_reducible refine (K8.out _).mono ?_); rintro e wx ⟨rfl, hw⟩; have hw := hw.symm; subst hw)
  refine (L2.out _ E2.out _ cm2.out).mono ?_
  rintro e w3 ⟨lb, mb, ρ, V, rfl, k3, b3, j3⟩
  obtain ⟨y', rfl⟩ : ∃ y', y = y' + 1 := ⟨y - 1, by have := HX.out; omega⟩
  have rr : Calls Tryz.prog 25 #[.pointer (some ⟨lb, 0, none⟩), .int .i64 5] w3 fun e w' => e = .returned (.tuple #[.int .i64 2, .int .i64 2]) ∧ ∃ ρ' V', Shut w' lb mb ρ' (plCB x ((y' + 1 : Nat) : Int)) V' (plEnd 13 (plOutB x ((y' + 1 : Nat) : Int))) ∧ MsGo V V' ρ ρ' w3 w' := sRun_any (ns := true) (runB x y') (by decide) (by simp [plCB]) (by simp [plCB]) (xr := default) rfl rfl (fun h => by cases h) (fun h => by cases h) w3 k3
  have eB := hide (plOutB_is x y' hx)
  have RR := hide rr
  have B3 := hide b3
  have J3 := hide j3
  clear k3 b3 j3 rr L2 E2 K7 K8 s7 s8
  go_wp2_with fail
  refine RR.out.mono ?_
  rintro e w4 ⟨rfl, ρ4, V4, k4, g4⟩
  obtain ⟨vb, cb, hv⟩ := (k4.ms.out (fun x => x)).1.len
  have O := hide (sOut_any w4 k4)
  rw [hv, show ((plEnd 13 (plOutB (x : Int) ((y' + 1 : Nat) : Int))).out.map intV).length = 2 from rfl] at O
  have G4 := hide g4
  clear k4 g4 hv RR
  go_wp2_with fail
  refine O.out.mono ?_
  rintro e w5 ⟨rfl, q5, k5, g5⟩
  have gg := G4.out.trans g5
  have b5 : Below w.heap.size w w5 := below_go B2.out B2.out.size B3.out gg J3.out
  have B5 := hide b5
  have Q5 := hide q5
  clear b5 gg q5 k5 g5 G4 O B2 B3 J3
  have hy0 : (((y' + 1 : Nat) : Int) == 0) = false := by simp; omega
  have q5b : QAt w5 3 (.slice vb 2 cb) ((plOutB (x : Int) ((y' + 1 : Nat) : Int)).map intV) := Q5.out
  rw [eB.out] at q5b
  have S5 := hide (same_true (w5.alloc (.cells #[.int .i64 ((x : Int) / ((y' : Int) + 1)), .int .i64 (-((x : Int).tmod ((y' : Int) + 1)))] 3)).drew vb (some ⟨w5.heap.size, 0, none⟩) cb 2 [(x : Int) / ((y' : Int) + 1), -((x : Int).tmod ((y' : Int) + 1))] (by simp) (by exact rowI_alloc q5b rfl _) (by exact rowI_new w5 [(x : Int) / ((y' : Int) + 1), -((x : Int).tmod ((y' : Int) + 1))]) 2 rfl)
  have hq1 := quo_in x y' hx
  have hq2 := quo_in2 x y' hx
  clear q5b eB Q5
  go_wp2_with fail
  go_region_with (go_at_call 23; refine Calls.mono (by exact S5.out) ?_; rintro e w6 ⟨rfl, p6⟩; have P6 := hide p6; clear p6)
  all_goals
    have b6 : Below w.heap.size w w6 := below_dalloc B5.out B5.out.size P6.out
    have B6 := hide b6
    have cm6 := hide (cell_of_block Hm.out (b6.block 0 h0))
    clear b6 P6 B5 S5
    have pn := plN_all k hk
    unfold plNB at pn
    rw [Bool.and_eq_true, Bool.and_eq_true, decide_eq_true_eq, List.all_eq_true] at pn
    obtain ⟨⟨pl, po⟩, pn⟩ := pn
    have T3 : Hid (∀ (b : ByteArray), b = ⟨(itText (plN k)).toArray⟩ → Calls Tryz.prog 22 #[.string b, .int .i64 200] w6 fun e w' => ∃ (va : Option Addr) (cc : Nat), e = .returned (.tuple #[.slice va 1 cc, .bool true]) ∧ QAt w' 3 (.slice va 1 cc) ([cntS k].map intV) ∧ Below w6.heap.size w6 w') := by
      cases hC : codeI (shapeI (plN k)) with
      | none => rw [hC] at pn; cases pn
      | some C =>
        rw [hC] at pn
        obtain ⟨r, xr, hrun, hst, hok, hch, hf⟩ := runsC_out pn
        have hf := of_decide_eq_true hf
        exact hide (fun b hb => told_at hC po pl hrun (by decide) hch hok hst b hb w6 m cm6.out 1 (by rw [hf]; rfl) [cntS k] hf)
    clear pn pl po
    have zk := digX_len k
    have zks : (⟨(digX k).toArray⟩ : ByteArray).size ≤ 7 := by rw [bsz]; exact zk
    have K0 := hide (ln_at ⟨#[118, 97, 114, 32, 105]⟩ [118, 97, 114, 32, 105] rfl 0 0 rfl (by decide) (by decide))
    have s0 : (lnS 0 [118, 97, 114, 32, 105]).size ≤ 60 := by rw [lnS_size]; decide
    have K1 := hide (ln_at ⟨#[118, 97, 114, 32, 115]⟩ [118, 97, 114, 32, 115] rfl 1 1 rfl (by decide) (by decide))
    have s1 : (lnS 1 [118, 97, 114, 32, 115]).size ≤ 60 := by rw [lnS_size]; decide
    have K2 := hide (ln_at ⟨#[115, 101, 113]⟩ [115, 101, 113] rfl 2 2 rfl (by decide) (by decide))
    have s2 : (lnS 2 [115, 101, 113]).size ≤ 60 := by rw [lnS_size]; decide
    have K3 := hide (ln_at (⟨#[119, 104, 105, 108, 101, 32, 105, 32, 60, 32]⟩ ++ ⟨(digX k).toArray⟩) ([119, 104, 105, 108, 101, 32, 105, 32, 60, 32] ++ digX k) (ba_append [119, 104, 105, 108, 101, 32, 105, 32, 60, 32] (digX k)) 3 3 rfl (by decide) (by simp; omega))
    have s3 : (lnS 3 ([119, 104, 105, 108, 101, 32, 105, 32, 60, 32] ++ digX k)).size ≤ 60 := by rw [lnS_size]; simp; omega
    have K4 := hide (ln_at ⟨#[115, 101, 113]⟩ [115, 101, 113] rfl 4 4 rfl (by decide) (by decide))
    have s4 : (lnS 4 [115, 101, 113]).size ≤ 60 := by rw [lnS_size]; decide
    have K5 := hide (ln_at ⟨#[105, 32, 58, 61, 32, 105, 32, 43, 32, 49]⟩ [105, 32, 58, 61, 32, 105, 32, 43, 32, 49] rfl 5 5 rfl (by decide) (by decide))
    have s5 : (lnS 5 [105, 32, 58, 61, 32, 105, 32, 43, 32, 49]).size ≤ 60 := by rw [lnS_size]; decide
    have K6 := hide (ln_at ⟨#[105, 102]⟩ [105, 102] rfl 5 5 rfl (by decide) (by decide))
    have s6 : (lnS 5 [105, 102]).size ≤ 60 := by rw [lnS_size]; decide
    have K7 := hide (ln_at ⟨#[119, 104, 101, 110, 32, 40, 105, 32, 37, 32, 50, 41, 32, 61, 32, 48]⟩ [119, 104, 101, 110, 32, 40, 105, 32, 37, 32, 50, 41, 32, 61, 32, 48] rfl 6 6 rfl (by decide) (by decide))
    have s7 : (lnS 6 [119, 104, 101, 110, 32, 40, 105, 32, 37, 32, 50, 41, 32, 61, 32, 48]).size ≤ 60 := by rw [lnS_size]; decide
    have K8 := hide (ln_at ⟨#[115, 32, 58, 61, 32, 115, 32, 43, 32, 105]⟩ [115, 32, 58, 61, 32, 115, 32, 43, 32, 105] rfl 7 7 rfl (by decide) (by decide))
    have s8 : (lnS 7 [115, 32, 58, 61, 32, 115, 32, 43, 32, 105]).size ≤ 60 := by rw [lnS_size]; decide
    have K9 := hide (ln_at ⟨#[119, 104, 101, 110, 32, 49]⟩ [119, 104, 101, 110, 32, 49] rfl 6 6 rfl (by decide) (by decide))
    have s9 : (lnS 6 [119, 104, 101, 110, 32, 49]).size ≤ 60 := by rw [lnS_size]; decide
    have K10 := hide (ln_at ⟨#[115, 32, 58, 61, 32, 115, 32, 45, 32, 49]⟩ [115, 32, 58, 61, 32, 115, 32, 45, 32, 49] rfl 7 7 rfl (by decide) (by decide))
    have s10 : (lnS 7 [115, 32, 58, 61, 32, 115, 32, 45, 32, 49]).size ≤ 60 := by rw [lnS_size]; decide
    have K11 := hide (ln_at ⟨#[111, 117, 116, 32, 33, 32, 115]⟩ [111, 117, 116, 32, 33, 32, 115] rfl 3 3 rfl (by decide) (by decide))
    have s11 : (lnS 3 [111, 117, 116, 32, 33, 32, 115]).size ≤ 60 := by rw [lnS_size]; decide
    generalize g0 : lnS 0 [118, 97, 114, 32, 105] = R0 at *
    generalize g1 : lnS 1 [118, 97, 114, 32, 115] = R1 at *
    generalize g2 : lnS 2 [115, 101, 113] = R2 at *
    generalize g3 : lnS 3 ([119, 104, 105, 108, 101, 32, 105, 32, 60, 32] ++ digX k) = R3 at *
    generalize g4 : lnS 4 [115, 101, 113] = R4 at *
    generalize g5 : lnS 5 [105, 32, 58, 61, 32, 105, 32, 43, 32, 49] = R5 at *
    generalize g6 : lnS 5 [105, 102] = R6 at *
    generalize g7 : lnS 6 [119, 104, 101, 110, 32, 40, 105, 32, 37, 32, 50, 41, 32, 61, 32, 48] = R7 at *
    generalize g8 : lnS 7 [115, 32, 58, 61, 32, 115, 32, 43, 32, 105] = R8 at *
    generalize g9 : lnS 6 [119, 104, 101, 110, 32, 49] = R9 at *
    generalize g10 : lnS 7 [115, 32, 58, 61, 32, 115, 32, 45, 32, 49] = R10 at *
    generalize g11 : lnS 3 [111, 117, 116, 32, 33, 32, 115] = R11 at *
    have E3 := hide (show R0 ++ R1 ++ R2 ++ R3 ++ R4 ++ R5 ++ R6 ++ R7 ++ R8 ++ R9 ++ R10 ++ R11 = ⟨(itText (plN k)).toArray⟩ by rw [← g0, ← g1, ← g2, ← g3, ← g4, ← g5, ← g6, ← g7, ← g8, ← g9, ← g10, ← g11]; simp only [lnS, ba_append]; simp only [itText, plN, flatL, kL, Itm.line, List.map_cons, List.map_nil, List.flatMap_cons, List.flatMap_nil, List.append_assoc, List.append_nil])
    clear g0 g1 g2 g3 g4 g5 g6 g7 g8 g9 g10 g11 zk
    generalize (⟨(digX k).toArray⟩ : ByteArray) = bk at *
    go_wp2_with fail
    refine (P3.out _).mono ?_
    rintro e wx ⟨rfl, hw⟩
    have hw := hw.symm
    subst hw
    go_wp2_with (first
      | (go_at_call 21; refine (N3.out _).mono ?_; rintro e wx ⟨rfl, hw⟩; have hw := hw.symm; subst hw)
      | (go_at_call 18; (first | with_reducible refine (K0.out _).mono ?_ | with_reducible refine (K1.out _).mono ?_ | with_reducible refine (K2.out _).mono ?_ | with_reducible refine (K3.out _).mono ?_ | with_reducible refine (K4.out _).mono ?_ | with_reducible refine (K5.out _).mono ?_ | with_reducible refine (K6.out _).mono ?_ | with_reducible refine (K7.out _).mono ?_ | with_reducible refine (K8.out _).mono ?_ | with_reducible refine (K9.out _).mono ?_ | with_reducible refine (K10.out _).mono ?_ | with_reducible refine (K11.out _).mono ?_); rintro e wx ⟨rfl, hw⟩; have hw := hw.symm; subst hw))
    refine (T3.out _ E3.out).mono ?_
    rintro e w7 ⟨vc, cd, rfl, q7, b7⟩
    have b67 : Below w.heap.size w w7 := B6.out.trans ⟨b7.os, b7.tape, b7.output, b7.size, fun g hg => b7.block g (Nat.lt_of_lt_of_le hg B6.out.size)⟩
    have B7 := hide b67
    have S7 := hide (same_true (w7.alloc (.cells #[.int .i64 (cntS k)] 3)) vc (some ⟨w7.heap.size, 0, none⟩) cd 1 [cntS k] (by simp) (rowI_alloc q7 rfl _) (rowI_new w7 [cntS k]) 1 rfl)
    clear b67 b7 q7 B6 T3 E3 cm6
    clear K0 K1 K2 K3 K4 K5 K6 K7 K8 K9 K10 K11 P3 N3
    go_wp2_with fail
    go_loopw [23, 24] (fun u i wr => ∃ j : Nat, j ≤ k ∧ i = .int .i64 ((j + 1 : Nat) : Int) ∧ u = .int .i64 (cntS j) ∧ wr = w7) (fun _ i _ => k + 1 - (intOf i).toNat)
    case atStart => exact ⟨0, Nat.zero_le _, rfl, rfl, rfl⟩
    case round =>
      obtain ⟨j, hj, rfl, rfl, rfl⟩ := hrel
      have bd := cntS_bound j
      have HS := hide (cnt_step j)
      by_cases hlt : j < k
      · generalize cntS j = S at *
        by_cases hev : (j + 1) % 2 = 0
        · have t1 : (((j + 1 : Nat) : Int) % 2 == 0) = true := by simp; omega
          have t2 : (((j : Int) + 1) % 2 == 0) = true := by simp; omega
          go_wp2
          go_roundw
          case rel => exact ⟨j + 1, by omega, by go_num, by rw [HS.out, if_pos hev], by first | rfl | trivial⟩
          case measure => simp [intOf]; omega
        · have t1 : (((j + 1 : Nat) : Int) % 2 == 0) = false := by simp; omega
          have t2 : (((j : Int) + 1) % 2 == 0) = false := by simp; omega
          go_wp2
          go_roundw
          case rel => exact ⟨j + 1, by omega, by go_num, by rw [HS.out, if_neg hev], by first | rfl | trivial⟩
          case measure => simp [intOf]; omega
      · obtain rfl : j = k := by omega
        clear HS
        go_wp2_with fail
        refine S7.out.mono ?_
        rintro e w8 ⟨rfl, j8, hj8⟩
        have B8 := hide (show Below w.heap.size w w8 by rw [hj8]; exact below_alloc B7.out B7.out.size _ _)
        clear hj8 B7 S7
        go_wp2
        go_ret
        exact ⟨rfl, B8.out⟩
end Go.Proofs.YtnhidaamfnjdjaaGreatDoor
