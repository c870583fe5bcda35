import Derived.Test.YtnhidaamfnjdjaaGreatDoorTimE
/- TIMED: the law, walked. Written by wip/gentime.py. -/
namespace Go.Proofs.YtnhidaamfnjdjaaGreatDoor
open Go.RowKit Go.Maps

theorem ti_runs (x y z : Nat) (hx : x < 9) (hy : y < 9) (hz : z < 9) : ∃ (s : PS) (r : Int × MS) (xr : PCh), (parseF (itText (tiItems x y z)) (linesF (itText (tiItems x y z)))).1 = some s ∧ checkF (itText (tiItems x y z)) = (0, 0) ∧ runC false (makeF (namedF s).2 (rootOf s)).code (makeF (namedF s).2 (rootOf s)).br 200 1000 0 (newF (makeF (namedF s).2 (rootOf s))) = some r ∧ r.2.stands = 2 ∧ okLens r.2 = true ∧ r.2.chans[1]? = some xr ∧ tiOk [x, y, z] r.2.out = true ∧ r.2.time = (tiMax x y z : Int) := by
  have h := ti_all x y z hx hy hz
  unfold tiB at h
  rw [Bool.and_eq_true, decide_eq_true_eq] at h
  obtain ⟨hl, h⟩ := h
  cases hC : codeI (tiShape x y z) with
  | none => rw [hC] at h; cases h
  | some C =>
    rw [hC] at h
    obtain ⟨s, hr, hc, h1, h2, rfl⟩ := code_out hC
    obtain ⟨r, xr, hrun, hst, hok, hch, hf⟩ := runsC_out h
    rw [Bool.and_eq_true, beq_iff_eq] at hf
    have hps := parse_items (tiItems x y z) (tiItems_ok x y z hx hy hz) s hr hc hl
    exact ⟨s, r, xr, by rw [hps], check_of hps h1 h2, hrun, hst, hok, hch, hf.1, hf.2⟩
theorem loaded_at (b : ByteArray) (text : Bs) (hb : b = ⟨text.toArray⟩) (w : World) (hs : text.length ≤ 9223372036854775807) (m : Int) (hm : w.cell? ⟨0, 0, none⟩ = some (.int .i64 m)) (s : PS) (hp : (parseF text (linesF text)).1 = some s) (hck : checkF text = (0, 0)) :
    Calls Tryz.prog 24 #[.string b] w fun e w' => ∃ lb mb ρ V, e = .returned (.pointer (some ⟨lb, 0, none⟩)) ∧ w.heap.size ≤ lb ∧ Shut w' lb mb ρ (makeF (namedF s).2 (rootOf s)) V (newF (makeF (namedF s).2 (rootOf s))) ∧ Below w.heap.size w w' ∧ ∀ g, g < w.heap.size → ρ g = .junk := by
  subst hb
  exact loaded_ok text w hs m hm s hp hck
theorem Shut.drewN {lb mb : Nat} {ρ : Nat → MR} {C : CM} {V : MV} {s : MS} {w : World} (h : Shut w lb mb ρ C V s) (n : Nat) : Shut (w.drewN n) lb mb ρ C V s := ⟨h.at_, h.junk, ⟨h.ms.blk, h.ms.rb, h.ms.code, h.ms.brs, h.ms.vars, h.ms.chans, h.ms.stack, h.ms.urg, h.ms.oth, h.ms.slp, h.ms.out, h.ms.proc, h.ms.opn, h.ms.num, h.ms.lens⟩⟩
structure TiX (w w5 : World) (gb go A0 d0 A1 d1 A2 d2 : Nat) : Prop where
  at0 : w5.cell? ⟨gb, go, none⟩ = some (.int .i64 (A0 : Int)) ∧ w5.cell? ⟨w.heap.size, A0, none⟩ = some (.int .i64 (d0 : Int))
  at1 : w5.cell? ⟨gb, go + 1, none⟩ = some (.int .i64 (A1 : Int)) ∧ w5.cell? ⟨w.heap.size, A1, none⟩ = some (.int .i64 (d1 : Int))
  at2 : w5.cell? ⟨gb, go + 2, none⟩ = some (.int .i64 (A2 : Int)) ∧ w5.cell? ⟨w.heap.size, A2, none⟩ = some (.int .i64 (d2 : Int))
  bel : Below w.heap.size w w5
theorem TiX.drewN {w w5 : World} {gb go A0 d0 A1 d1 A2 d2 : Nat} (h : TiX w w5 gb go A0 d0 A1 d1 A2 d2) (n : Nat) : TiX w (w5.drewN n) gb go A0 d0 A1 d1 A2 d2 := ⟨h.at0, h.at1, h.at2, ⟨h.bel.os, h.bel.tape, h.bel.output, h.bel.size, h.bel.block⟩⟩
theorem len3 {α : Type} {l : List α} (h : l.length = 3) (d : α) : l = [l.getD 0 d, l.getD 1 d, l.getD 2 d] := by
  match l, h with
  | [a, b, c], _ => rfl

set_option maxRecDepth 20000 in
set_option maxHeartbeats 8000000 in
theorem Timed_any (x1 x2 x3 : Int) (r1 : -9223372036854775808 ≤ x1 ∧ x1 ≤ 9223372036854775807) (r2 : -9223372036854775808 ≤ x2 ∧ x2 ≤ 9223372036854775807) (r3 : -9223372036854775808 ≤ x3 ∧ x3 ≤ 9223372036854775807) (w : World) (m : Int) (hm : w.cell? ⟨0, 0, none⟩ = some (.int .i64 m)) :
    Calls Tryz.prog 11 #[.int .i64 x1, .int .i64 x2, .int .i64 x3] w fun e w' => e = .returned (.bool true) ∧ Below w.heap.size w w' := by
  have h0 := cell_lt hm
  have hx := pickN_lt x1 9 (by decide)
  have hy := pickN_lt x2 9 (by decide)
  have hz := pickN_lt x3 9 (by decide)
  generalize e1 : pickN x1 9 = x at *
  generalize e2 : pickN x2 9 = y at *
  generalize e3 : pickN x3 9 = z at *
  have P1 := hide (pickN_at x1 r1.1 r1.2 9 (by decide) (by decide) 9 rfl x e1)
  have P2 := hide (pickN_at x2 r2.1 r2.2 9 (by decide) (by decide) 9 rfl y e2)
  have P3 := hide (pickN_at x3 r3.1 r3.2 9 (by decide) (by decide) 9 rfl z e3)
  obtain ⟨s, r, xr, hps, hck, hrun, hst, hok, hch, hto, htm⟩ := ti_runs x y z hx hy hz
  obtain ⟨n, E, tok⟩ := text_all _ s hps
  have hcl := tok.code
  have hbl := tok.br
  have htl := tiC_len x y z 3
  have L := hide (fun (b : ByteArray) (hb : b = ⟨(tiC x y z 3).toArray⟩) (wr : World) (hwm : wr.cell? ⟨0, 0, none⟩ = some (.int .i64 m)) => loaded_at b (itText (tiItems x y z)) (by rw [hb, tiC_text]) wr (by rw [← tiC_text]; omega) m hwm s hps hck)
  generalize makeF (namedF s).2 (rootOf s) = C at *
  have Run := hide (fun (lb mb : Nat) (ρ : Nat → MR) (V : MV) (w : World) (h : Shut w lb mb ρ C V (newF C)) => hst ▸ sRun_any hrun (by decide) (by omega) (by omega) hch hok (fun _ => sleepH mb C) (fun _ => wakeH mb C) w h)
  have Hm := hide hm
  have Hto := hide (ti_out hto)
  have Htm := hide htm
  clear e1 e2 e3 hm r1 r2 r3 hps hck hrun hst hok hch hto htm tok hcl hbl htl
  have K0 := hide (ln_at ⟨#[99, 104, 97, 110, 32, 97]⟩ [99, 104, 97, 110, 32, 97] rfl 0 0 rfl (by decide) (by decide))
  have z0 : (lnS 0 [99, 104, 97, 110, 32, 97]).size ≤ 60 := by rw [lnS_size]; decide
  have K1 := hide (ln_at ⟨#[99, 104, 97, 110, 32, 98]⟩ [99, 104, 97, 110, 32, 98] rfl 1 1 rfl (by decide) (by decide))
  have z1 : (lnS 1 [99, 104, 97, 110, 32, 98]).size ≤ 60 := by rw [lnS_size]; decide
  have K2 := hide (ln_at ⟨#[99, 104, 97, 110, 32, 99]⟩ [99, 104, 97, 110, 32, 99] rfl 2 2 rfl (by decide) (by decide))
  have z2 : (lnS 2 [99, 104, 97, 110, 32, 99]).size ≤ 60 := by rw [lnS_size]; decide
  have K3 := hide (ln_at ⟨#[112, 97, 114]⟩ [112, 97, 114] rfl 3 3 rfl (by decide) (by decide))
  have z3 : (lnS 3 [112, 97, 114]).size ≤ 60 := by rw [lnS_size]; decide
  go_enter Tryz.func11, Tryz.ntmps11
  go_wp2_with fail
  refine (P1.out _).mono ?_
  rintro e wx ⟨rfl, hw⟩
  have hw := hw.symm
  subst hw
  go_wp2_with fail
  refine (P2.out _).mono ?_
  rintro e wx ⟨rfl, hw⟩
  have hw := hw.symm
  subst hw
  go_wp2_with fail
  refine (P3.out _).mono ?_
  rintro e wx ⟨rfl, hw⟩
  have hw := hw.symm
  subst hw
  clear P1 P2 P3
  go_wp2_with (go_at_call 18; (first | with_reducible refine (K0.out _).mono ?_ | with_reducible refine (K1.out _).mono ?_ | with_reducible refine (K2.out _).mono ?_ | with_reducible refine (K3.out _).mono ?_); rintro e wx ⟨rfl, hw⟩; have hw := hw.symm; subst hw)
  go_loopw [8, 10] (fun u i wr => ∃ k : Nat, k ≤ 3 ∧ i = .int .i64 k ∧ u = .string ⟨(tiA x y z k).toArray⟩ ∧ TiW w wr x y z) (fun _ i _ => 3 - (intOf i).toNat)
  case atStart =>
    refine ⟨0, Nat.zero_le _, rfl, ?_, TiW.new w x y z⟩
    simp only [lnS, ba_append]
    rfl
  case round =>
    obtain ⟨k, hk, rfl, rfl, htw⟩ := hrel
    clear K0 K1 K2 K3 z0 z1 z2 z3
    by_cases hk3 : k < 3
    · have HT := hide htw
      have ci := htw.ints k hk3
      have cs := htw.strs k hk3
      have hv : [x, y, z].getD k 0 < 9 := three (P := fun k => [x, y, z].getD k 0 < 9) hx hy hz k hk3
      have hsz : (⟨(tiA x y z k).toArray⟩ : ByteArray).size ≤ 300 := by rw [bsz]; have := tiA_len x y z k; omega
      have EA := hide (show tiA x y z (k + 1) = tiA x y z k ++ kL 4 [115, 101, 113] ++ kL 5 ([119, 97, 105, 116, 32] ++ digK ([x, y, z].getD k 0 + 1)) ++ kL 5 (tiPut k) from rfl)
      generalize [x, y, z].getD k 0 = v at *
      have hki : (k : Int) < 3 := by omega
      have N1 := hide (numK_at (v + 1) (by omega) ((v : Int) + 1) (by omega))
      have N2 := hide (numK_any k (by omega))
      have d1 := digK_len (v + 1)
      have d2 := digK_len k
      have d1s := digK_size (v + 1)
      have d2s := digK_size k
      have nms : (⟨(nmK k).toArray⟩ : ByteArray).size = 1 := rfl
      have K4 := hide (ln_at ⟨#[115, 101, 113]⟩ [115, 101, 113] rfl 4 4 rfl (by decide) (by decide))
      have z4 : (lnS 4 [115, 101, 113]).size ≤ 60 := by rw [lnS_size]; decide
      have K5 := hide (ln_at (⟨#[119, 97, 105, 116, 32]⟩ ++ ⟨(digK (v + 1)).toArray⟩) ([119, 97, 105, 116, 32] ++ digK (v + 1)) (ba_append [119, 97, 105, 116, 32] (digK (v + 1))) 5 5 rfl (by decide) (by simp; omega))
      have z5 : (lnS 5 ([119, 97, 105, 116, 32] ++ digK (v + 1))).size ≤ 60 := by rw [lnS_size]; simp; omega
      have K6 := hide (ln_at (⟨(nmK k).toArray⟩ ++ ⟨#[32, 33, 32]⟩ ++ ⟨(digK k).toArray⟩) (tiPut k) (by rw [show (⟨#[32, 33, 32]⟩ : ByteArray) = ⟨[32, 33, 32].toArray⟩ from rfl, ba_append, ba_append]; rfl) 5 5 rfl (by decide) (by simp [tiPut, nmK]; omega))
      have z6 : (lnS 5 (tiPut k)).size ≤ 60 := by rw [lnS_size]; simp [tiPut, nmK]; omega
      clear htw d1 d2 L Run Hto Htm
      generalize hA : (⟨(tiA x y z k).toArray⟩ : ByteArray) = bA at *
      generalize h4 : lnS 4 [115, 101, 113] = L4 at *
      generalize h5 : lnS 5 ([119, 97, 105, 116, 32] ++ digK (v + 1)) = L5 at *
      generalize h6 : lnS 5 (tiPut k) = L6 at *
      have HE := hide (show bA ++ L4 ++ L5 ++ L6 = ⟨(tiA x y z (k + 1)).toArray⟩ by rw [EA.out, ← hA, ← h4, ← h5, ← h6]; simp only [lnS, ba_append])
      clear hA h4 h5 h6 EA
      generalize (⟨(nmK k).toArray⟩ : ByteArray) = bn at *
      generalize (⟨(digK k).toArray⟩ : ByteArray) = bk at *
      generalize (⟨(digK (v + 1)).toArray⟩ : ByteArray) = bv at *
      go_wp2_with fail
      go_big_quiet (first
        | (go_at_call 21; with_reducible refine Calls.quiet_of_same (N1.out _))
        | (go_at_call 21; with_reducible refine Calls.quiet_of_same (N2.out _))
        | (go_at_call 18; with_reducible refine Calls.quiet_of_same (K4.out _))
        | (go_at_call 18; with_reducible refine Calls.quiet_of_same (K5.out _))
        | (go_at_call 18; with_reducible refine Calls.quiet_of_same (K6.out _)))
      go_wp2
      go_roundw
      case rel =>
        exact ⟨k + 1, by omega, by go_num, by rw [← HE.out], HT.out.drewN _⟩
      case measure => simp [intOf]; omega
    · obtain rfl : k = 3 := by omega
      have hsz : (⟨(tiA x y z 3).toArray⟩ : ByteArray).size ≤ 300 := by rw [bsz]; have := tiA_len x y z 3; omega
      have EC := hide (show tiC x y z 0 = tiA x y z 3 ++ kL 4 [118, 97, 114, 32, 120] ++ kL 5 [118, 97, 114, 32, 110] ++ kL 6 [119, 104, 105, 108, 101, 32, 110, 32, 60, 32, 51] ++ kL 7 [97, 108, 116] from rfl)
      have HT := hide htw
      clear htw
      have K0 := hide (ln_at ⟨#[118, 97, 114, 32, 120]⟩ [118, 97, 114, 32, 120] rfl 4 4 rfl (by decide) (by decide))
      have z0 : (lnS 4 [118, 97, 114, 32, 120]).size ≤ 60 := by rw [lnS_size]; decide
      have K1 := hide (ln_at ⟨#[118, 97, 114, 32, 110]⟩ [118, 97, 114, 32, 110] rfl 5 5 rfl (by decide) (by decide))
      have z1 : (lnS 5 [118, 97, 114, 32, 110]).size ≤ 60 := by rw [lnS_size]; decide
      have K2 := hide (ln_at ⟨#[119, 104, 105, 108, 101, 32, 110, 32, 60, 32, 51]⟩ [119, 104, 105, 108, 101, 32, 110, 32, 60, 32, 51] rfl 6 6 rfl (by decide) (by decide))
      have z2 : (lnS 6 [119, 104, 105, 108, 101, 32, 110, 32, 60, 32, 51]).size ≤ 60 := by rw [lnS_size]; decide
      have K3 := hide (ln_at ⟨#[97, 108, 116]⟩ [97, 108, 116] rfl 7 7 rfl (by decide) (by decide))
      have z3 : (lnS 7 [97, 108, 116]).size ≤ 60 := by rw [lnS_size]; decide
      generalize hA : (⟨(tiA x y z 3).toArray⟩ : ByteArray) = bA at *
      generalize h0 : lnS 4 [118, 97, 114, 32, 120] = L0 at *
      generalize h1 : lnS 5 [118, 97, 114, 32, 110] = L1 at *
      generalize h2 : lnS 6 [119, 104, 105, 108, 101, 32, 110, 32, 60, 32, 51] = L2 at *
      generalize h3 : lnS 7 [97, 108, 116] = L3 at *
      have HE := hide (show bA ++ L0 ++ L1 ++ L2 ++ L3 = ⟨(tiC x y z 0).toArray⟩ by rw [EC.out, ← hA, ← h0, ← h1, ← h2, ← h3]; simp only [lnS, ba_append])
      clear hA h0 h1 h2 h3 EC
      go_wp2_with (go_at_call 18; (first | with_reducible refine (K0.out _).mono ?_ | with_reducible refine (K1.out _).mono ?_ | with_reducible refine (K2.out _).mono ?_ | with_reducible refine (K3.out _).mono ?_); rintro e wx ⟨rfl, hw⟩; have hw := hw.symm; subst hw)
      go_loopw [8, 11] (fun u i w1 => ∃ k : Nat, k ≤ 3 ∧ i = .int .i64 k ∧ u = .string ⟨(tiC x y z k).toArray⟩ ∧ TiW w w1 x y z) (fun _ i _ => 3 - (intOf i).toNat)
      case atStart =>
        exact ⟨0, Nat.zero_le _, rfl, by rw [HE.out], HT.out⟩
      case round =>
        obtain ⟨k, hk, rfl, rfl, htw⟩ := hrel
        clear K0 K1 K2 K3 z0 z1 z2 z3 HT HE
        by_cases hk3 : k < 3
        · have HT := hide htw
          have cs := htw.strs k hk3
          have hsz : (⟨(tiC x y z k).toArray⟩ : ByteArray).size ≤ 900 := by rw [bsz]; have := tiC_len x y z k; omega
          have EA := hide (show tiC x y z (k + 1) = tiC x y z k ++ kL 8 (tiOn k) ++ kL 9 [112, 97, 114] ++ kL 10 [110, 32, 58, 61, 32, 110, 32, 43, 32, 49] ++ kL 10 [111, 117, 116, 32, 33, 32, 120] from rfl)
          have hki : (k : Int) < 3 := by omega
          have nms : (⟨(nmK k).toArray⟩ : ByteArray).size = 1 := rfl
          have K4 := hide (ln_at (⟨#[111, 110, 32]⟩ ++ ⟨(nmK k).toArray⟩ ++ ⟨#[32, 63, 32, 120]⟩) (tiOn k) (by rw [show (⟨#[32, 63, 32, 120]⟩ : ByteArray) = ⟨[32, 63, 32, 120].toArray⟩ from rfl, show (⟨#[111, 110, 32]⟩ : ByteArray) = ⟨[111, 110, 32].toArray⟩ from rfl, ba_append, ba_append]; rfl) 8 8 rfl (by decide) (by simp [tiOn, nmK]))
          have z4 : (lnS 8 (tiOn k)).size ≤ 60 := by rw [lnS_size]; simp [tiOn, nmK]
          have K5 := hide (ln_at ⟨#[112, 97, 114]⟩ [112, 97, 114] rfl 9 9 rfl (by decide) (by decide))
          have z5 : (lnS 9 [112, 97, 114]).size ≤ 60 := by rw [lnS_size]; decide
          have K6 := hide (ln_at ⟨#[110, 32, 58, 61, 32, 110, 32, 43, 32, 49]⟩ [110, 32, 58, 61, 32, 110, 32, 43, 32, 49] rfl 10 10 rfl (by decide) (by decide))
          have z6 : (lnS 10 [110, 32, 58, 61, 32, 110, 32, 43, 32, 49]).size ≤ 60 := by rw [lnS_size]; decide
          have K7 := hide (ln_at ⟨#[111, 117, 116, 32, 33, 32, 120]⟩ [111, 117, 116, 32, 33, 32, 120] rfl 10 10 rfl (by decide) (by decide))
          have z7 : (lnS 10 [111, 117, 116, 32, 33, 32, 120]).size ≤ 60 := by rw [lnS_size]; decide
          clear htw L Run Hto Htm
          generalize hA : (⟨(tiC x y z k).toArray⟩ : ByteArray) = bA at *
          generalize h4 : lnS 8 (tiOn k) = L4 at *
          generalize h5 : lnS 9 [112, 97, 114] = L5 at *
          generalize h6 : lnS 10 [110, 32, 58, 61, 32, 110, 32, 43, 32, 49] = L6 at *
          generalize h7 : lnS 10 [111, 117, 116, 32, 33, 32, 120] = L7 at *
          have HE := hide (show bA ++ L4 ++ L5 ++ L6 ++ L7 = ⟨(tiC x y z (k + 1)).toArray⟩ by rw [EA.out, ← hA, ← h4, ← h5, ← h6, ← h7]; simp only [lnS, ba_append])
          clear hA h4 h5 h6 h7 EA
          generalize (⟨(nmK k).toArray⟩ : ByteArray) = bn at *
          go_wp2_with (go_at_call 18; (first | with_reducible refine (K4.out _).mono ?_ | with_reducible refine (K5.out _).mono ?_ | with_reducible refine (K6.out _).mono ?_ | with_reducible refine (K7.out _).mono ?_); rintro e wx ⟨rfl, hw⟩; have hw := hw.symm; subst hw)
          go_roundw
          case rel =>
            exact ⟨k + 1, by omega, by go_num, by rw [← HE.out], HT.out⟩
          case measure => simp [intOf]; omega
        · obtain rfl : k = 3 := by omega
          have hwm := cell_grown Hm.out htw.gr (by simp)
          have HT := hide htw
          clear htw
          generalize hb3 : (⟨(tiC x y z 3).toArray⟩ : ByteArray) = b3
          have L3 := hide (L.out b3 hb3.symm _ hwm)
          clear L hb3 hwm
          go_wp2_with fail
          refine L3.out.mono ?_
          rintro e w1 ⟨lb, mb, ρ, V, rfl, l1, k1, b1, j1⟩
          have K1 := hide k1
          have B1 := hide b1
          have J1 := hide j1
          clear k1 b1 j1 L3 l1
          go_wp2_with fail
          refine (Run.out lb mb ρ V _ K1.out).mono ?_
          rintro e w2 ⟨rfl, ρ2, V2, k2, g2⟩
          obtain ⟨va, cc, hv⟩ := (k2.ms.out (fun x => x)).1.len
          have O := hide (sOut_any w2 k2)
          rw [hv, List.length_map, Hto.out.1] at O
          have G2 := hide g2
          clear k2 g2 hv Run K1
          go_wp2_with fail
          refine O.out.mono ?_
          rintro e w3 ⟨rfl, q3, k3, g3⟩
          have gg := G2.out.trans g3
          have cells : ∀ j, j < 3 → w3.cell? ⟨w.heap.size, j, none⟩ = some (.int .i64 ([x, y, z].getD j 0 : Nat)) := fun j hj => by
            have hlt := cell_lt (HT.out.ints j hj)
            exact cell_of_block (HT.out.ints j hj) (((gg.fr.block _ (Nat.lt_of_lt_of_le hlt B1.out.size) (by rw [J1.out _ hlt]; simp)).1).trans (B1.out.block _ hlt))
          have bel : Below w.heap.size w w3 := by
            have hs := HT.out.gr.size
            refine ⟨gg.fr.os.trans (B1.out.os.trans HT.out.gr.os), gg.fr.tape.trans (B1.out.tape.trans HT.out.gr.tape), gg.fr.output.trans (B1.out.output.trans HT.out.gr.output), Nat.le_trans hs (Nat.le_trans B1.out.size gg.fr.size), fun j hj => ?_⟩
            have hj2 := Nat.lt_of_lt_of_le hj hs
            exact ((gg.fr.block j (Nat.lt_of_lt_of_le hj2 B1.out.size) (by rw [J1.out j hj2]; simp)).1).trans ((B1.out.block j hj2).trans (HT.out.gr.block j hj (by simp)))
          have Tm := hide (fun n => show Calls Tryz.prog 28 #[.pointer (some ⟨lb, 0, none⟩)] (w3.drewN n) (fun e w' => e = .returned (.int .i64 ((tiMax x y z : Nat) : Int)) ∧ w' = w3.drewN n) by
            have := sTime_any (w3.drewN n) (k3.drewN n)
            rw [show ({ r.2 with out := [] } : MS).time = ((tiMax x y z : Nat) : Int) from Htm.out] at this
            exact this)
          have Bel := hide bel
          have hq : tiEnd r.2.out va w3 := tiEnd_of (by rw [Hto.out.1]; exact q3) (by rw [Hto.out.1]; decide)
          have Hq := hide hq
          have Cells := hide cells
          have c0 : w3.cell? ⟨w.heap.size, 0, none⟩ = some (.int .i64 (x : Int)) := cells 0 (by decide)
          have c1 : w3.cell? ⟨w.heap.size, 1, none⟩ = some (.int .i64 (y : Int)) := cells 1 (by decide)
          have c2 : w3.cell? ⟨w.heap.size, 2, none⟩ = some (.int .i64 (z : Int)) := cells 2 (by decide)
          clear q3 k3 g3 gg G2 cells bel hq O Htm HT B1 J1
          go_wp2_with fail
          obtain ⟨gb, go, rfl, hcl⟩ := Hq.out
          have Hcl := hide hcl
          have HL := hide Hto.out.1
          have HR := hide Hto.out.2.1
          have HP := hide Hto.out.2.2
          clear hcl Hq
          generalize hM : ((tiMax x y z : Nat) : Int) = M at *
          have HM := hide hM
          clear hM
          go_big_quiet (fail)
          have hM : M = (max (max x y) z : Nat) + 1 := by rw [← HM.out]; rfl
          have hmx : (if (if x < y then (y : Int) else (x : Int)) < (z : Int) then (z : Int) else if x < y then (y : Int) else (x : Int)) + 1 = M := by
            rw [hM]
            by_cases h1 : x < y
            · simp only [if_pos h1]; split <;> omega
            · simp only [if_neg h1]; split <;> omega
          rw [hmx]
          clear HM hM hmx
          have key : ∀ j, j < 3 → ∃ A : Nat, A < 3 ∧ r.2.out.getD j 0 = (A : Int) ∧ w3.cell? ⟨gb, go + j, none⟩ = some (.int .i64 (A : Int)) ∧ w3.cell? ⟨w.heap.size, A, none⟩ = some (.int .i64 ([x, y, z].getD A 0 : Nat)) := fun j hj => by
            have h1 := HR.out j hj
            have h2 := Hcl.out j (by rw [HL.out]; exact hj)
            refine ⟨(r.2.out.getD j 0).toNat, by omega, by omega, ?_, Cells.out _ (by omega)⟩
            rw [h2, show r.2.out.getD j 0 = ((r.2.out.getD j 0).toNat : Int) by omega, Int.toNat_natCast]
          obtain ⟨A0, a0, o0, l0, v0⟩ := key 0 (by decide)
          obtain ⟨A1, a1, o1, l1, v1⟩ := key 1 (by decide)
          obtain ⟨A2, a2, o2, l2, v2⟩ := key 2 (by decide)
          have p0 := HP.out 0 (by decide)
          have p1 := HP.out 1 (by decide)
          rw [o0, o1, Int.toNat_natCast, Int.toNat_natCast] at p0
          rw [o1, o2, Int.toNat_natCast, Int.toNat_natCast] at p1
          have y0 : [x, y, z].getD A0 0 < 9 := three (P := fun k => [x, y, z].getD k 0 < 9) hx hy hz A0 a0
          have y1 : [x, y, z].getD A1 0 < 9 := three (P := fun k => [x, y, z].getD k 0 < 9) hx hy hz A1 a1
          have y2 : [x, y, z].getD A2 0 < 9 := three (P := fun k => [x, y, z].getD k 0 < 9) hx hy hz A2 a2
          generalize [x, y, z].getD A0 0 = d0 at *
          generalize [x, y, z].getD A1 0 = d1 at *
          generalize [x, y, z].getD A2 0 = d2 at *
          have V0 := hide (And.intro l0 v0)
          have V1 := hide (And.intro l1 v1)
          have V2 := hide (And.intro l2 v2)
          clear key o0 o1 o2 HR HP Hcl HL Hto Cells c0 c1 c2 l0 v0 l1 v1 l2 v2
          go_wp2_with fail
          all_goals
            refine (Tm.out _).mono ?_
            rintro e wx ⟨rfl, hw⟩
            have hw := hw.symm
            subst hw
            go_wp2_with fail
          all_goals
            go_loopw [17] (fun i w5 => ∃ k : Nat, k ≤ 3 ∧ i = .int .i64 k ∧ TiX w w5 gb go A0 d0 A1 d1 A2 d2) (fun i _ => 3 - (intOf i).toNat)
            case atStart => exact ⟨0, Nat.zero_le _, rfl, (TiX.mk V0.out V1.out V2.out Bel.out).drewN _⟩
            case round =>
              obtain ⟨k, hk, rfl, htx⟩ := hrel
              have HX := hide htx
              have ck : k = 0 ∨ k = 1 ∨ k = 2 ∨ k = 3 := by omega
              clear V0 V1 V2 Bel Tm
              rcases ck with rfl | rfl | rfl | rfl
              · obtain ⟨l0, _⟩ := htx.at0
                clear htx
                go_wp2
                go_big_quiet (fail)
                go_wp2
                go_roundw
                case rel => exact ⟨1, by decide, rfl, HX.out.drewN _⟩
                case measure => decide
              · have lk := htx.at1
                have lj := htx.at0
                have i1 : (A1 : Int) < 3 := by omega
                have i2 : (A0 : Int) < 3 := by omega
                obtain ⟨lk, vk⟩ := lk
                obtain ⟨lj, vj⟩ := lj
                clear htx
                go_wp2
                rcases p0 with q | ⟨q, q2⟩
                · have g1 : decide (d1 < d0) = false := by simp; omega
                  have g2 : (d1 == d0) = false := by simp; omega
                  have g4 : ((d1 : Int) == (d0 : Int)) = false := by simp; omega
                  have g5 : decide (d1 = d0) = false := by simp; omega
                  have g6 : ¬ (d1 = d0) := by omega
                  go_big_quiet (fail)
                  go_wp2
                  go_roundw
                  case rel => exact ⟨2, by decide, rfl, HX.out.drewN _⟩
                  case measure => decide
                · subst q
                  have q3 : A0 < A1 := by omega
                  have g3 : decide (A1 ≤ A0) = false := by simp; omega
                  go_big_quiet (fail)
                  go_wp2
                  go_roundw
                  case rel => exact ⟨2, by decide, rfl, HX.out.drewN _⟩
                  case measure => decide
              · have lk := htx.at2
                have lj := htx.at1
                have i1 : (A2 : Int) < 3 := by omega
                have i2 : (A1 : Int) < 3 := by omega
                obtain ⟨lk, vk⟩ := lk
                obtain ⟨lj, vj⟩ := lj
                clear htx
                go_wp2
                rcases p1 with q | ⟨q, q2⟩
                · have g1 : decide (d2 < d1) = false := by simp; omega
                  have g2 : (d2 == d1) = false := by simp; omega
                  have g4 : ((d2 : Int) == (d1 : Int)) = false := by simp; omega
                  have g5 : decide (d2 = d1) = false := by simp; omega
                  have g6 : ¬ (d2 = d1) := by omega
                  go_big_quiet (fail)
                  go_wp2
                  go_roundw
                  case rel => exact ⟨3, by decide, rfl, HX.out.drewN _⟩
                  case measure => decide
                · subst q
                  have q3 : A1 < A2 := by omega
                  have g3 : decide (A2 ≤ A1) = false := by simp; omega
                  go_big_quiet (fail)
                  go_wp2
                  go_roundw
                  case rel => exact ⟨3, by decide, rfl, HX.out.drewN _⟩
                  case measure => decide
              · go_wp2
                go_ret
                exact ⟨rfl, HX.out.bel⟩
end Go.Proofs.YtnhidaamfnjdjaaGreatDoor
