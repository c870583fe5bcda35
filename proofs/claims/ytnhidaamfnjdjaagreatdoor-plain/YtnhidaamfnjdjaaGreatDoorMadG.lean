import Derived.Test.YtnhidaamfnjdjaaGreatDoorMadA
/- RUN. -/
namespace Go.Proofs.YtnhidaamfnjdjaaGreatDoor
open Go.RowKit Go.Maps

section
variable {mb : Nat} {ρ : Nat → MR} {C : CM} {V : MV} {s : MS}

theorem mcell_lt {w : World} {b o : Nat} {v : Value} (h : w.cell? ⟨b, o, none⟩ = some v) : b < w.heap.size := by
  rcases Nat.lt_or_ge b w.heap.size with z | z
  · exact z
  · have e : w.heap[b]? = none := Array.getElem?_eq_none z
    simp [World.cell?, e] at h

theorem leastN_le {P : Nat → Prop} {m : Nat} (h : P m) : leastN P ≤ m := (leastN_spec ⟨m, h⟩).2 m h
theorem enters (k : Nat) (h : k < 25) (args : Array Value) (w : World) : (callFunc (fnOf k) args).run Tryz.prog w = .ok (.enter (fnOf k) args) w := by
  have cases : k = 0 ∨ k = 1 ∨ k = 2 ∨ k = 3 ∨ k = 4 ∨ k = 5 ∨ k = 6 ∨ k = 7 ∨ k = 8 ∨ k = 9 ∨ k = 10 ∨ k = 11 ∨ k = 12 ∨ k = 13 ∨ k = 14 ∨ k = 15 ∨ k = 16 ∨ k = 17 ∨ k = 18 ∨ k = 19 ∨ k = 20 ∨ k = 21 ∨ k = 22 ∨ k = 23 ∨ k = 24 := by omega
  rcases cases with rfl | rfl | rfl | rfl | rfl | rfl | rfl | rfl | rfl | rfl | rfl | rfl | rfl | rfl | rfl | rfl | rfl | rfl | rfl | rfl | rfl | rfl | rfl | rfl | rfl
  · show (callFunc 83 args).run Tryz.prog w = .ok (.enter 83 args) w
    go_simp
  · show (callFunc 84 args).run Tryz.prog w = .ok (.enter 84 args) w
    go_simp
  · show (callFunc 85 args).run Tryz.prog w = .ok (.enter 85 args) w
    go_simp
  · show (callFunc 86 args).run Tryz.prog w = .ok (.enter 86 args) w
    go_simp
  · show (callFunc 87 args).run Tryz.prog w = .ok (.enter 87 args) w
    go_simp
  · show (callFunc 88 args).run Tryz.prog w = .ok (.enter 88 args) w
    go_simp
  · show (callFunc 89 args).run Tryz.prog w = .ok (.enter 89 args) w
    go_simp
  · show (callFunc 90 args).run Tryz.prog w = .ok (.enter 90 args) w
    go_simp
  · show (callFunc 91 args).run Tryz.prog w = .ok (.enter 91 args) w
    go_simp
  · show (callFunc 92 args).run Tryz.prog w = .ok (.enter 92 args) w
    go_simp
  · show (callFunc 93 args).run Tryz.prog w = .ok (.enter 93 args) w
    go_simp
  · show (callFunc 94 args).run Tryz.prog w = .ok (.enter 94 args) w
    go_simp
  · show (callFunc 95 args).run Tryz.prog w = .ok (.enter 95 args) w
    go_simp
  · show (callFunc 96 args).run Tryz.prog w = .ok (.enter 96 args) w
    go_simp
  · show (callFunc 97 args).run Tryz.prog w = .ok (.enter 97 args) w
    go_simp
  · show (callFunc 98 args).run Tryz.prog w = .ok (.enter 98 args) w
    go_simp
  · show (callFunc 99 args).run Tryz.prog w = .ok (.enter 99 args) w
    go_simp
  · show (callFunc 100 args).run Tryz.prog w = .ok (.enter 100 args) w
    go_simp
  · show (callFunc 101 args).run Tryz.prog w = .ok (.enter 101 args) w
    go_simp
  · show (callFunc 102 args).run Tryz.prog w = .ok (.enter 102 args) w
    go_simp
  · show (callFunc 103 args).run Tryz.prog w = .ok (.enter 103 args) w
    go_simp
  · show (callFunc 104 args).run Tryz.prog w = .ok (.enter 104 args) w
    go_simp
  · show (callFunc 105 args).run Tryz.prog w = .ok (.enter 105 args) w
    go_simp
  · show (callFunc 106 args).run Tryz.prog w = .ok (.enter 106 args) w
    go_simp
  · show (callFunc 107 args).run Tryz.prog w = .ok (.enter 107 args) w
    go_simp
def RunInv (mb : Nat) (C : CM) (ns : Bool) (steps : Int) (r : Int × MS) (V0 : MV) (ρ0 : Nat → MR) (w0 : World) (f : Nat) (y : Value) (wr : World) : Prop :=
  ∃ (d : Int) (s : MS) (ρ : Nat → MR) (V : MV), y = .int .i64 d ∧ 0 ≤ d ∧ d ≤ 1000000000000 ∧ runC ns C.code C.br steps f d s = some r ∧ MsAt wr mb ρ C V s ∧ MsGo V0 V ρ0 ρ w0 wr

set_option maxRecDepth 20000 in
set_option maxHeartbeats 4000000 in
theorem mrun_any {ns : Bool} {fuel : Nat} {steps : Int} {r : Int × MS} (hrun : runC ns C.code C.br steps fuel 0 s = some r) (hst : steps ≤ 1000000000000) (hcl : C.code.length ≤ 1000000) (hbr : C.br.length ≤ 1000000) {xr : PCh} (hch : r.2.chans[1]? = some xr) (hrl : okLens r.2 = true) (SL : ns = false → SleepH mb C) (WK : ns = false → WakeH mb C) (w : World) (h : MsAt w mb ρ C V s) :
    Calls Tryz.prog 38 #[.pointer (some ⟨mb, 0, none⟩), .int .i64 steps] w fun e w' => e = .returned (.tuple #[.int .i64 r.1, .int .i64 r.2.stands]) ∧ MsPost mb C ρ V w r.2 w' := by
  have A := hide (actions_any w)
  have H := hide h
  clear h
  go_enter Tryz.func38, Tryz.ntmps38
  go_wp2_with (first
    | (go_at_call 56; refine A.out.mono ?_; rintro e w1 ⟨rfl, hw1⟩; have k1 := H.out.allocJ (.cells tabV 93); rw [← hw1] at k1; have k2 := k1.1.allocJ (.cells tabV 93); have hT := at_new w1 (.cells tabV 93); have K2 := hide k2.1; have F2 := hide (k1.2.trans k2.2); have HT := hide hT; clear A k1 k2 hT hw1)
    | (refine wpList_store_new (c' := tabV) rfl 93 (.tmp 6) (.tmp 9) rfl rfl rfl tabInfo rfl tabOne ?_))
  have EndIt := hide (fun (W : World) (d : Int) (S : MS) (ρ' : Nat → MR) (V' : MV) (hr : r = (d, S)) (k : MsAt W mb ρ' C V' S) (g : MsGo V V' (junkR (junkR ρ w.heap.size) w1.heap.size) ρ' (w1.alloc (.cells tabV 93)) W) => (show r.1 = d ∧ Calls Tryz.prog 58 #[.pointer (some ⟨mb, 0, none⟩)] W (fun e w' => e = .returned (.int .i64 r.2.stands) ∧ w' = W) ∧ MsPost mb C ρ V w r.2 W from by
    obtain ⟨l1, l2, l3, l4, l5, l6, l7⟩ := okLens_at hrl
    subst hr
    exact ⟨rfl, mstands_any hch W k (by omega) (by omega) (by omega), ρ', V', k, F2.out.trans g⟩))
  go_loopw [7, 8] (fun y _ wr => ∃ f, RunInv mb C ns steps r V (junkR (junkR ρ w.heap.size) w1.heap.size) (w1.alloc (.cells tabV 93)) f y wr) (fun y _ wr => leastN (fun f => RunInv mb C ns steps r V (junkR (junkR ρ w.heap.size) w1.heap.size) (w1.alloc (.cells tabV 93)) f y wr))
  case atStart => exact ⟨fuel, 0, s, _, V, rfl, by omega, by omega, hrun, K2.out, MsGo.refl _ _ _⟩
  case round =>
    have spec := leastN_spec hrel
    obtain ⟨d, s1, ρ1, V1, rfl, hd0, hd1, hr1, k1, f1⟩ := spec.1
    have Spec := hide spec.2
    clear spec hrel
    cases hcs : s1.cur with
    | none =>
      obtain ⟨f0, hf0, hlS0, hcase0⟩ := runC_none hr1 hcs
      have c5n := mcur_cell k1
      rw [hcs] at c5n
      unfold MV.ptrO at c5n
      simp only [Option.map_none] at c5n
      rcases hcase0 with ⟨hnd, hr⟩ | ⟨hds, hokm, hcase0⟩
      · obtain ⟨e1, cs, post⟩ := EndIt.out wr d s1 ρ1 V1 hr k1 f1
        have Cs := hide cs
        have Post := hide post
        have E1 := hide e1
        clear cs post e1 hr hf0 k1 f1 hr1
        go_wp2_with (go_at_call 58; refine Cs.out.mono ?_; rintro e w8 ⟨rfl, hw8⟩; have hw8 := hw8.symm; subst hw8)
        go_ret2
        exact ⟨by rw [E1.out]; rfl, Post.out⟩
      · have MK := hide (mmake_ok hcs hokm WK wr k1)
        have F1 := hide f1
        have Hr1 := hide hr1
        clear k1 f1 hr1
        generalize hS4 : s1.makeCurrent = S4 at *
        clear hS4 hokm
        rcases hcase0 with ⟨hcn, hr⟩ | ⟨p, hcS, hrn⟩
        · rw [hcn] at MK
          dsimp only [Option.isSome] at MK
          clear hcn
          go_wp2_with (first
            | (go_at_call 57; refine MK.out.mono ?_; rintro e w4 ⟨rfl, p4⟩; obtain ⟨ρ4, V4, k4, g4⟩ := p4; obtain ⟨e1, cs, post⟩ := EndIt.out w4 d S4 ρ4 V4 hr k4 (F1.out.trans g4); have Cs := hide cs; have Post := hide post; have E1 := hide e1; clear cs post e1 hr k4 g4)
            | (go_at_call 58; refine Cs.out.mono ?_; rintro e w8 ⟨rfl, hw8⟩; have hw8 := hw8.symm; subst hw8))
          go_ret2
          exact ⟨by rw [E1.out]; rfl, Post.out⟩
        · rw [hcS] at MK
          dsimp only [Option.isSome] at MK
          have HcS := hide hcS
          have Hrn := hide hrn
          clear hcS hrn
          go_wp2_with (go_at_call 57; refine MK.out.mono ?_; rintro e w4 ⟨rfl, p4⟩; have P4 := hide p4; clear p4)
          obtain ⟨ρ4, V4, k4, g4⟩ := P4.out
          have f4 := F1.out.trans g4
          have hcS := HcS.out
          have hrn := Hrn.out
          clear P4 g4 F1 MK HcS Hrn
          obtain ⟨f3, x, a, k, i, hf3, hlS, hp, ha, hal, hi, hcase⟩ := runC_some hrn hcS
          obtain ⟨gc, cap, c5, d3, c0, hcap1, hcap2, i0, i1⟩ := body_heads k4 hcS hp ha hal
          have hT : w4.heap[w1.heap.size]? = some (.cells tabV 93) := by
            rw [(f4.fr.block w1.heap.size (by simp) (by rw [junkR_new]; simp)).1]
            exact HT.out
          have hj : ρ4 w1.heap.size = .junk := by
            rw [(f4.fr.block w1.heap.size (by simp) (by rw [junkR_new]; simp)).2]
            exact junkR_new _ _
          rw [hi] at i1
          have hal2 : a < 1000000000000 := by omega
          have y1 : mb < w4.heap.size := mcell_lt c5
          have y2 : V4.pb.getD p 0 < w4.heap.size := mcell_lt d3
          have y3 : gc < w4.heap.size := mcell_lt i0
          rcases hcase with ⟨hk0, hsd, hr⟩ | ⟨hk, hns, hk25, hok, hnext⟩
          · exact absurd hsd (by omega)
          · obtain ⟨m1, m2, m3, n0, n1, t1, ρ5, g5, call⟩ := body_tails k4 hcS hp ha hT hj hk25 hok hbr SL
            rw [hk] at i0
            generalize V4.pb.getD p 0 = pb at *
            unfold nextW nowW at n0 n1 t1 g5 call
            unfold nowW at m1 m2 m3
            have m5 := (m1 5).trans c5
            have m6 := (m2 3).trans d3
            have Call := hide call
            have G5 := hide (f4.trans g5)
            have Next := hide hnext
            have Ent := enters k hk25
            have y4 : (0 : Int) ≤ (k : Int) := by omega
            have y5 : (k : Int) < 25 := by omega
            clear m1 m2 hT hj hi hok hnext call g5 ha hk
            by_cases hk0 : k = 0
            · have e0 : ((k : Int) == 0) = true := by simpa using hk0
              have hd2 : d < steps := by omega
              rw [if_pos hk0] at Next
              clear hk0
              go_region_held3 (fun w' => w'.cell? ⟨mb, 5, none⟩ = some (.pointer (some ⟨pb, 0, none⟩)) ∧ w'.cell? ⟨pb, 3, none⟩ = some (.int .i64 a) ∧ w'.cell? ⟨mb, 0, none⟩ = some (.slice (some ⟨gc, 0, none⟩) C.code.length cap) ∧ w'.cell? ⟨gc, a * 2, none⟩ = some (.int .i64 k) ∧ w'.cell? ⟨gc, a * 2 + 1, none⟩ = some (.int .i64 i)) (go_keep) (fail)
              clear y1 y2 y3
              go_wp2_with fail
              generalize (fnOf (k : Int)) = fk at *
              go_region_held3 (fun w' => w'.cell? ⟨w4.heap.size, 0, none⟩ = some (.int .i64 k) ∧ w'.cell? ⟨w4.heap.size, 1, none⟩ = some (.int .i64 i) ∧ w'.cell? ⟨w1.heap.size, k, none⟩ = some (.func (.func fk) #[] #[])) (go_keep) ((refine Call.out.mono ?_; rintro e w7 ⟨rfl, p7, z0, z1, z2⟩; have P7 := hide p7; clear p7))
              obtain ⟨ρ7, V7, k7, g7⟩ := P7.out
              have inv : RunInv mb C ns steps r V (junkR (junkR ρ w.heap.size) w1.heap.size) (w1.alloc (.cells tabV 93)) f3 (.int .i64 (d + 1)) w7 := ⟨d + 1, _, ρ7, V7, rfl, by omega, by omega, Next.out, k7, G5.out.trans g7⟩
              go_wp2_with fail
              go_roundw
              case rel => exact ⟨f3, inv⟩
              case measure =>
                show leastN _ < leastN _
                rw [hf0, hf3]
                exact Nat.lt_succ_of_le (Nat.le_succ_of_le (leastN_le inv))
            · have e0 : ((k : Int) == 0) = false := by simpa using hk0
              rw [if_neg hk0] at Next
              clear hk0 hns
              go_region_held3 (fun w' => w'.cell? ⟨mb, 5, none⟩ = some (.pointer (some ⟨pb, 0, none⟩)) ∧ w'.cell? ⟨pb, 3, none⟩ = some (.int .i64 a) ∧ w'.cell? ⟨mb, 0, none⟩ = some (.slice (some ⟨gc, 0, none⟩) C.code.length cap) ∧ w'.cell? ⟨gc, a * 2, none⟩ = some (.int .i64 k) ∧ w'.cell? ⟨gc, a * 2 + 1, none⟩ = some (.int .i64 i)) (go_keep) (fail)
              clear y1 y2 y3
              go_wp2_with fail
              generalize (fnOf (k : Int)) = fk at *
              go_region_held3 (fun w' => w'.cell? ⟨w4.heap.size, 0, none⟩ = some (.int .i64 k) ∧ w'.cell? ⟨w4.heap.size, 1, none⟩ = some (.int .i64 i) ∧ w'.cell? ⟨w1.heap.size, k, none⟩ = some (.func (.func fk) #[] #[])) (go_keep) ((refine Call.out.mono ?_; rintro e w7 ⟨rfl, p7, z0, z1, z2⟩; have P7 := hide p7; clear p7))
              obtain ⟨ρ7, V7, k7, g7⟩ := P7.out
              have inv : RunInv mb C ns steps r V (junkR (junkR ρ w.heap.size) w1.heap.size) (w1.alloc (.cells tabV 93)) f3 (.int .i64 (d)) w7 := ⟨d, _, ρ7, V7, rfl, by omega, by omega, Next.out, k7, G5.out.trans g7⟩
              go_wp2_with fail
              go_roundw
              case rel => exact ⟨f3, inv⟩
              case measure =>
                show leastN _ < leastN _
                rw [hf0, hf3]
                exact Nat.lt_succ_of_le (Nat.le_succ_of_le (leastN_le inv))
    | some p =>
      have hcS : s1.cur = some p := hcs
      obtain ⟨f3, x, a, k, i, hf3, hlS, hp, ha, hal, hi, hcase⟩ := runC_some hr1 hcS
      obtain ⟨gc, cap, c5, d3, c0, hcap1, hcap2, i0, i1⟩ := body_heads k1 hcS hp ha hal
      have hT : wr.heap[w1.heap.size]? = some (.cells tabV 93) := by
        rw [(f1.fr.block w1.heap.size (by simp) (by rw [junkR_new]; simp)).1]
        exact HT.out
      have hj : ρ1 w1.heap.size = .junk := by
        rw [(f1.fr.block w1.heap.size (by simp) (by rw [junkR_new]; simp)).2]
        exact junkR_new _ _
      rw [hi] at i1
      have hal2 : a < 1000000000000 := by omega
      have y1 : mb < wr.heap.size := mcell_lt c5
      have y2 : V1.pb.getD p 0 < wr.heap.size := mcell_lt d3
      have y3 : gc < wr.heap.size := mcell_lt i0
      rcases hcase with ⟨hk0, hsd, hr⟩ | ⟨hk, hns, hk25, hok, hnext⟩
      · have hend := EndIt.out wr d s1 ρ1 V1 hr k1 f1
        rw [hk0] at i0
        have hk0' : ((0 : Int) == 0) = true := rfl
        generalize V1.pb.getD p 0 = pb at *
        have hend2 := EndIt.out (wr.alloc (.cells #[.int .i64 0, .int .i64 i] 105)).drew d s1 _ _ hr (k1.allocJ (.cells #[.int .i64 0, .int .i64 i] 105)).1.drew (f1.trans (k1.allocJ (.cells #[.int .i64 0, .int .i64 i] 105)).2.drew)
        have HE := hide hend2
        have Hal := hide hal
        clear hend hend2 hT hj hi hr hk0
        go_wp2_with fail
        go_region_held3 (fun w' => w'.cell? ⟨mb, 5, none⟩ = some (.pointer (some ⟨pb, 0, none⟩)) ∧ w'.cell? ⟨pb, 3, none⟩ = some (.int .i64 a) ∧ w'.cell? ⟨mb, 0, none⟩ = some (.slice (some ⟨gc, 0, none⟩) C.code.length cap) ∧ w'.cell? ⟨gc, a * 2, none⟩ = some (.int .i64 0) ∧ w'.cell? ⟨gc, a * 2 + 1, none⟩ = some (.int .i64 i)) (go_keep) (fail)
        clear y1 y2 y3
        obtain ⟨e1, cs, post⟩ := HE.out
        have Cs := hide cs
        have Post := hide post
        have E1 := hide e1
        clear cs post HE e1
        go_wp2_with (go_at_call 58; refine Cs.out.mono ?_; rintro e w8 ⟨rfl, hw8⟩; have hw8 := hw8.symm; subst hw8)
        go_ret2
        exact ⟨by rw [E1.out]; rfl, Post.out⟩
      · obtain ⟨m1, m2, m3, n0, n1, t1, ρ5, g5, call⟩ := body_tails k1 hcS hp ha hT hj hk25 hok hbr SL
        rw [hk] at i0
        generalize V1.pb.getD p 0 = pb at *
        unfold nextW nowW at n0 n1 t1 g5 call
        unfold nowW at m1 m2 m3
        have m5 := (m1 5).trans c5
        have m6 := (m2 3).trans d3
        have Call := hide call
        have G5 := hide (f1.trans g5)
        have Next := hide hnext
        have Ent := enters k hk25
        have y4 : (0 : Int) ≤ (k : Int) := by omega
        have y5 : (k : Int) < 25 := by omega
        clear m1 m2 hT hj hi hok hnext call g5 ha hk
        by_cases hk0 : k = 0
        · have e0 : ((k : Int) == 0) = true := by simpa using hk0
          have hd2 : d < steps := by omega
          rw [if_pos hk0] at Next
          clear hk0
          go_wp2_with fail
          go_region_held3 (fun w' => w'.cell? ⟨mb, 5, none⟩ = some (.pointer (some ⟨pb, 0, none⟩)) ∧ w'.cell? ⟨pb, 3, none⟩ = some (.int .i64 a) ∧ w'.cell? ⟨mb, 0, none⟩ = some (.slice (some ⟨gc, 0, none⟩) C.code.length cap) ∧ w'.cell? ⟨gc, a * 2, none⟩ = some (.int .i64 k) ∧ w'.cell? ⟨gc, a * 2 + 1, none⟩ = some (.int .i64 i)) (go_keep) (fail)
          clear y1 y2 y3
          go_wp2_with fail
          generalize (fnOf (k : Int)) = fk at *
          go_region_held3 (fun w' => w'.cell? ⟨wr.heap.size, 0, none⟩ = some (.int .i64 k) ∧ w'.cell? ⟨wr.heap.size, 1, none⟩ = some (.int .i64 i) ∧ w'.cell? ⟨w1.heap.size, k, none⟩ = some (.func (.func fk) #[] #[])) (go_keep) ((refine Call.out.mono ?_; rintro e w7 ⟨rfl, p7, z0, z1, z2⟩; have P7 := hide p7; clear p7))
          obtain ⟨ρ7, V7, k7, g7⟩ := P7.out
          have inv : RunInv mb C ns steps r V (junkR (junkR ρ w.heap.size) w1.heap.size) (w1.alloc (.cells tabV 93)) f3 (.int .i64 (d + 1)) w7 := ⟨d + 1, _, ρ7, V7, rfl, by omega, by omega, Next.out, k7, G5.out.trans g7⟩
          go_wp2_with fail
          go_roundw
          case rel => exact ⟨f3, inv⟩
          case measure =>
            show leastN _ < leastN _
            rw [hf3]
            exact Nat.lt_succ_of_le (leastN_le inv)
        · have e0 : ((k : Int) == 0) = false := by simpa using hk0
          rw [if_neg hk0] at Next
          clear hk0 hns
          go_wp2_with fail
          go_region_held3 (fun w' => w'.cell? ⟨mb, 5, none⟩ = some (.pointer (some ⟨pb, 0, none⟩)) ∧ w'.cell? ⟨pb, 3, none⟩ = some (.int .i64 a) ∧ w'.cell? ⟨mb, 0, none⟩ = some (.slice (some ⟨gc, 0, none⟩) C.code.length cap) ∧ w'.cell? ⟨gc, a * 2, none⟩ = some (.int .i64 k) ∧ w'.cell? ⟨gc, a * 2 + 1, none⟩ = some (.int .i64 i)) (go_keep) (fail)
          clear y1 y2 y3
          go_wp2_with fail
          generalize (fnOf (k : Int)) = fk at *
          go_region_held3 (fun w' => w'.cell? ⟨wr.heap.size, 0, none⟩ = some (.int .i64 k) ∧ w'.cell? ⟨wr.heap.size, 1, none⟩ = some (.int .i64 i) ∧ w'.cell? ⟨w1.heap.size, k, none⟩ = some (.func (.func fk) #[] #[])) (go_keep) ((refine Call.out.mono ?_; rintro e w7 ⟨rfl, p7, z0, z1, z2⟩; have P7 := hide p7; clear p7))
          obtain ⟨ρ7, V7, k7, g7⟩ := P7.out
          have inv : RunInv mb C ns steps r V (junkR (junkR ρ w.heap.size) w1.heap.size) (w1.alloc (.cells tabV 93)) f3 (.int .i64 (d)) w7 := ⟨d, _, ρ7, V7, rfl, by omega, by omega, Next.out, k7, G5.out.trans g7⟩
          go_wp2_with fail
          go_roundw
          case rel => exact ⟨f3, inv⟩
          case measure =>
            show leastN _ < leastN _
            rw [hf3]
            exact Nat.lt_succ_of_le (leastN_le inv)
end
end Go.Proofs.YtnhidaamfnjdjaaGreatDoor
